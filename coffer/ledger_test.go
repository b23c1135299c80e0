package coffer_test

import (
	"fmt"
	"testing"

	"coffer/api"
	"coffer/coffer"
)

// funcBytes: the bytes of a function, whatever its numbers are.
func funcBytes(f api.Func) string {
	b := ""
	for _, l := range [][]int{f.Params, f.Results, f.Locals} {
		b += by(len(l)) + by(l...)
	}
	b += by(len(f.Code))
	for _, x := range f.Code {
		b += by(x.Op, x.Arg)
	}
	return b
}

// scr: the bytes of a script without locals.
func scr(text string) string { return funcBytes(fn("", "", "", text)) }

// scrOf: the bytes of a script with locals.
func scrOf(locals, text string) string { return funcBytes(fn("", "", locals, text)) }

func bytesFor(t *testing.T, m api.Module) string {
	t.Helper()
	b, e := coffer.Encode(m)
	if e != api.OK {
		t.Fatalf("no module (%d): %s", e, tell(m))
	}
	return b
}

// ledger: a new one, of the module that the bytes are.
func ledger(t *testing.T, b string) *coffer.Ledger {
	t.Helper()
	l, e := coffer.New(b)
	if l == nil || e != api.OK {
		t.Fatalf("P6: New of %v = %v, %d", show(b), l, e)
	}
	return l
}

func outcome(e api.Errno, code, used int) api.Outcome {
	return api.Outcome{Err: e, Code: code, Used: used}
}

func wantRun(t *testing.T, l *coffer.Ledger, script string, who, gas int, want api.Outcome) {
	t.Helper()
	if o := l.Run(script, who, gas); o != want {
		t.Errorf("P7: Run of %v for %d with gas %d = %v, want %v", show(script), who, gas, o, want)
	}
}

// wantOut: the same for account 0, with gas for all that is not endless.
func wantOut(t *testing.T, l *coffer.Ledger, script string, e api.Errno, code, used int) {
	t.Helper()
	wantRun(t, l, script, 0, 5000, outcome(e, code, used))
}

func wantAmount(t *testing.T, l *coffer.Ledger, who, kind, n int, e api.Errno) {
	t.Helper()
	if v, f := l.Amount(who, kind); v != n || f != e {
		t.Errorf("P8: Amount(%d, %d) = %d, %d, want %d, %d", who, kind, v, f, n, e)
	}
}

// wantHeld: what accounts 0 to 7 hold of a kind (-1: nothing).
func wantHeld(t *testing.T, l *coffer.Ledger, kind int, want [8]int) {
	t.Helper()
	for who, n := range want {
		if n < 0 {
			wantAmount(t, l, who, kind, 0, api.ErrNone)
		} else {
			wantAmount(t, l, who, kind, n, api.OK)
		}
	}
}

// all: everything that the accounts of a ledger hold.
func all(l *coffer.Ledger) string {
	out := ""
	for who := 0; who < 8; who++ {
		for kind := 1; kind <= 6; kind++ {
			if n, e := l.Amount(who, kind); e == api.OK {
				out += fmt.Sprintf("%d holds %d of kind %d; ", who, n, kind)
			}
		}
	}
	return out
}

// house: a bank of coins (kind 1) and deeds (kind 2). Functions: 0 a coin is made, 1 a coin goes to an account, 2 the account's own coin, 3 a coin is opened, 4 a deed is made for an account, 5 the account's own deed goes to an account, 6 a number ten times, 7 calls itself.
func house() api.Module {
	return api.Module{Kinds: []int{0, 0}, Funcs: []api.Func{
		fn("0", "1", "", "move 0, make 1, ret"),
		fn("10", "", "", "move 0, move 1, store 1, ret"),
		fn("", "1", "", "fetch 1, ret"),
		fn("1", "0", "", "move 0, open 1, ret"),
		fn("00", "", "", "move 0, make 2, move 1, store 2, ret"),
		fn("0", "", "", "fetch 2, move 0, store 2, ret"),
		fn("0", "0", "0", "copy 0, move 0, add, keep 1, copy 1, copy 1, add, keep 0, copy 0, move 0, add, move 1, add, ret"),
		fn("", "", "", "call 7, ret"),
	}}
}

// billion: the greatest number, in code for the house; so many instructions are done for it.
var billion = "push 100, " + times(7, "call 6")

const billionUsed = 1 + 7*15

// wantNumber: the number that code leaves on the stack of a script for the house; a coin tells it.
func wantNumber(t *testing.T, locals, text string, want int) {
	t.Helper()
	l := ledger(t, bytesFor(t, house()))
	if o := l.Run(scrOf(locals, text+", call 0, push 7, call 1, ret"), 0, 5000); o.Err != api.OK {
		t.Errorf("P7: %s = %v", text, o)
		return
	}
	if n, e := l.Amount(7, 1); n != want || e != api.OK {
		t.Errorf("P7: %s leaves %d, %d, want %d", text, n, e, want)
	}
}
