package coffer_test

import (
	"strconv"
	"testing"

	"coffer/api"
)

// Gas that just reaches, and less, and more.
func TestRunOfGas(t *testing.T) {
	b := bytesFor(t, house())
	for text, want := range map[string]api.Outcome{
		"ret": outcome(api.OK, 0, 1), "fail 7": outcome(api.ErrFail, 7, 1), "push 1, drop, ret": outcome(api.OK, 0, 3), "push 0, push 1, sub, drop, ret": outcome(api.ErrOver, 0, 3),
		coin(1, 1) + "ret": outcome(api.OK, 0, coinUsed+1), coin(1, 8) + "ret": outcome(api.ErrArg, 0, coinUsed-1), "call 2, fail": outcome(api.ErrNone, 0, 2), "call 7, ret": outcome(api.ErrDeep, 0, 8),
		coin(1, 1) + coin(2, 1) + "ret": outcome(api.ErrThere, 0, 2*coinUsed-1), "push 9, has 2, fail": outcome(api.ErrArg, 0, 2), billion + "push 1, add, fail": outcome(api.ErrOver, 0, billionUsed+2),
	} {
		for gas := 0; gas < want.Used+3; gas++ {
			l := ledger(t, b)
			if gas < want.Used {
				wantRun(t, l, scr(text), 0, gas, outcome(api.ErrGas, 0, gas))
				wantAmount(t, l, 1, 1, 0, api.ErrNone)
			} else {
				wantRun(t, l, scr(text), 0, gas, want)
			}
		}
		wantRun(t, ledger(t, b), scr(text), 0, 10000, want)
	}
}

// counted: a script that does 9999 instructions and so many more: a loop, done 1664 times, is most of them.
func counted(more int) string {
	text := times(6, "push 255") + "push 134, " + times(6, "add") + "keep 0, copy 0, push 1, sub, keep 0, copy 0, jumpif 14, "
	for i := 0; i < more; i++ {
		text += "jump " + strconv.Itoa(21+i) + ", "
	}
	return scrOf("0", text+"ret")
}

func TestRunOfAllGas(t *testing.T) {
	l := ledger(t, bank)
	wantRun(t, l, counted(0), 0, 10000, outcome(api.OK, 0, 9999))
	wantRun(t, l, counted(0), 0, 9999, outcome(api.OK, 0, 9999))
	wantRun(t, l, counted(0), 0, 9998, outcome(api.ErrGas, 0, 9998))
	wantRun(t, l, counted(1), 0, 10000, outcome(api.OK, 0, 10000))
	wantRun(t, l, counted(1), 0, 9999, outcome(api.ErrGas, 0, 9999))
	wantRun(t, l, counted(2), 0, 10000, outcome(api.ErrGas, 0, 10000))
	wantRun(t, l, counted(2), 0, 10001, outcome(api.ErrArg, 0, 0))
	for _, gas := range []int{0, 1, 2, 30, 9999, 10000} {
		wantRun(t, l, scr("jump 0"), 0, gas, outcome(api.ErrGas, 0, gas))
	}
}
