package coffer_test

import (
	"strconv"
	"strings"
	"testing"

	"coffer/api"
	"coffer/coffer"
)

var opNames = strings.Fields("ret push add sub less same jump jumpif copy move keep drop make open call fetch store has fail")

func opOf(name string) int {
	for i, n := range opNames {
		if n == name {
			return i
		}
	}
	return -1
}

// code reads instructions as a person writes them: "push 5, drop, ret".
func code(text string) []api.Instr {
	l := []api.Instr{}
	for _, part := range strings.Split(text, ",") {
		words := strings.Fields(part)
		if len(words) == 0 {
			continue
		}
		x := api.Instr{Op: opOf(words[0])}
		if len(words) > 1 {
			x.Arg, _ = strconv.Atoi(words[1])
		}
		l = append(l, x)
	}
	return l
}

// kindsOf reads kinds, one digit each.
func kindsOf(text string) []int {
	l := []int{}
	for _, c := range text {
		l = append(l, int(c-'0'))
	}
	return l
}

// fn: a function; the kinds of its parameters, results and locals as digits.
func fn(params, results, locals, text string) api.Func {
	return api.Func{Params: kindsOf(params), Results: kindsOf(results), Locals: kindsOf(locals), Code: code(text)}
}

// fourKinds: kind 1 may nothing, 2 be copied, 3 be dropped, 4 both.
var fourKinds = []int{0, api.MayCopy, api.MayDrop, api.MayCopy + api.MayDrop}

func four(funcs ...api.Func) api.Module { return api.Module{Kinds: fourKinds, Funcs: funcs} }

// wantCheck: what Check must answer for a module.
func wantCheck(t *testing.T, m api.Module, e api.Errno, at int) {
	t.Helper()
	b, f := coffer.Encode(m)
	if f != api.OK {
		t.Fatalf("no module: %v", m)
	}
	if g, p := coffer.Check(b); g != e || p != at {
		t.Errorf("P5: Check of %s = %d, %d, want %d, %d", tell(m), g, p, e, at)
	}
}

// wantSound: whether function 0 of a module of four kinds must be sound; the other functions are.
func wantSound(t *testing.T, sound bool, funcs ...api.Func) {
	t.Helper()
	e := api.ErrFlow
	if sound {
		e = api.OK
	}
	wantCheck(t, four(funcs...), e, 0)
}

// tell writes a module as a person would read it.
func tell(m api.Module) string {
	out := ""
	for i, f := range m.Funcs {
		out += "\n" + strconv.Itoa(i) + ":"
		for _, l := range [][]int{f.Params, f.Results, f.Locals} {
			out += " ("
			for _, k := range l {
				out += strconv.Itoa(k)
			}
			out += ")"
		}
		for _, x := range f.Code {
			out += " " + opNames[x.Op] + " " + strconv.Itoa(x.Arg) + ","
		}
	}
	return out + "\n"
}

// times: a piece of code so many times.
func times(n int, text string) string { return strings.Repeat(text+", ", n) }
