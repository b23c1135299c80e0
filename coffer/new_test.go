package coffer_test

import (
	"math/rand"
	"strings"
	"testing"

	"coffer/api"
	"coffer/coffer"
)

func wantNoLedger(t *testing.T, b string, e api.Errno) {
	t.Helper()
	if l, f := coffer.New(b); l != nil || f != e {
		t.Errorf("P6: New of %v = %v, %d, want none and %d", show(b), l, f, e)
	}
}

func TestNewRefuses(t *testing.T) {
	for _, b := range []string{strings.Repeat("x", 1501), strings.Repeat("C", 5000), bank + strings.Repeat("\x00", 1500), bytesFor(t, longModule(1500)) + "\x00"} {
		wantNoLedger(t, b, api.ErrLong)
	}
	for _, b := range []string{"", "C", "CF", "cf" + bank[2:], bank + "\x00", bank[:len(bank)-1], by(67, 70, 0, 0), strings.Repeat("x", 1500), by(67, 70, 0, 1, 0, 0, 0, 1, 12, 1)} {
		wantNoLedger(t, b, api.ErrForm)
	}
	for n := 0; n < len(bank); n++ {
		wantNoLedger(t, bank[:n], api.ErrForm)
	}
	lone := fn("", "", "", "ret")
	for _, m := range []api.Module{
		four(fn("", "", "", "add, ret")), four(lone, fn("1", "", "", "ret")), four(lone, lone, fn("", "", "", "push 1, drop")),
		four(lone, lone, lone, lone, lone, lone, lone, fn("", "", "", "push 1, ret")), four(fn("", "", "", "push 1, ret"), lone),
	} {
		wantNoLedger(t, bytesFor(t, m), api.ErrFlow)
	}
	// not of the form, and not sound either: the form goes ahead
	wantNoLedger(t, by(67, 70, 0, 1, 0, 0, 0, 1, 2, 0, 0), api.ErrForm)
}

func TestNewGivesAnEmptyLedger(t *testing.T) {
	for _, m := range []api.Module{house(), four(fn("", "", "", "ret")), {Kinds: make([]int, 6), Funcs: []api.Func{fn("", "", "", "ret")}}, longModule(1500), {Funcs: []api.Func{fn("", "", "", "jump 0")}}} {
		l := ledger(t, bytesFor(t, m))
		for kind := -1; kind <= 8; kind++ {
			for who := 0; who < 8; who++ {
				if kind >= 1 && kind <= len(m.Kinds) {
					wantAmount(t, l, who, kind, 0, api.ErrNone)
				} else {
					wantAmount(t, l, who, kind, 0, api.ErrArg)
				}
			}
		}
		wantRun(t, l, scr("ret"), 0, 1, outcome(api.OK, 0, 1))
	}
}

// New refuses what Check refuses, with the same error, and nothing else.
func TestNewAnswersAsCheck(t *testing.T) {
	r := rand.New(rand.NewSource(7))
	seen := [11]int{}
	for k := 0; k < 6000; k++ {
		b := bytesOf(someModule(r, 1+r.Intn(3)))
		if r.Intn(2) == 0 {
			m := madeModule(r)
			if r.Intn(2) == 0 {
				spoil(r, m)
			}
			b, _ = coffer.Encode(m)
		}
		if r.Intn(9) == 0 {
			b += strings.Repeat("\x00", r.Intn(2000))
		}
		e, _ := coffer.Check(b)
		seen[e]++
		if e != api.OK {
			wantNoLedger(t, b, e)
			continue
		}
		ledger(t, b)
	}
	for _, e := range []api.Errno{api.OK, api.ErrLong, api.ErrForm, api.ErrFlow} {
		if seen[e] < 50 {
			t.Errorf("only %d times %d", seen[e], e)
		}
	}
}
