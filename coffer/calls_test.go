package coffer_test

import (
	"strconv"
	"testing"

	"coffer/api"
)

// chain: function i calls function i+1, and the last one returns.
func chain(n int) api.Module {
	m := api.Module{}
	for i := 1; i < n; i++ {
		m.Funcs = append(m.Funcs, fn("", "", "", "call "+strconv.Itoa(i)+", ret"))
	}
	m.Funcs = append(m.Funcs, fn("", "", "", "ret"))
	return m
}

// The script is the first call: seven more may go on in one another.
func TestRunOfDeepCalls(t *testing.T) {
	l := ledger(t, bytesFor(t, chain(8)))
	for first := 1; first < 8; first++ {
		wantOut(t, l, scr("call "+strconv.Itoa(first)+", ret"), api.OK, 0, 2*(9-first)-1)
	}
	wantOut(t, l, scr("call 0, ret"), api.ErrDeep, 0, 8)
	// the eighth call may do all but call
	wantOut(t, l, scr("call 1, call 1, call 2, call 7, ret"), api.OK, 0, 2*14+12+2+1)
	wantOut(t, l, scr("call 1, call 1, call 0, ret"), api.ErrDeep, 0, 2*14+8)
	// calls that have ended do not count
	wantOut(t, l, scr(times(90, "call 7")+"ret"), api.OK, 0, 181)
	wantOut(t, l, scr("call 1, jump 0"), api.ErrGas, 0, 5000)
	// gas goes ahead of the depth, the depth ahead of no gas for a further one
	for gas := 0; gas < 8; gas++ {
		wantRun(t, l, scr("call 0, ret"), 0, gas, outcome(api.ErrGas, 0, gas))
	}
	wantRun(t, l, scr("call 0, ret"), 0, 8, outcome(api.ErrDeep, 0, 8))
	wantRun(t, l, scr("call 0, ret"), 0, 10000, outcome(api.ErrDeep, 0, 8))
	// functions that call themselves and one another
	l = ledger(t, bytesFor(t, api.Module{Funcs: []api.Func{
		fn("0", "", "", "copy 0, jumpif 3, ret, move 0, push 1, sub, call 0, ret"),
		fn("", "", "", "call 2, ret"), fn("", "", "", "push 1, drop, call 1, ret"),
	}}))
	for n := 0; n <= 6; n++ {
		wantOut(t, l, scr("push "+strconv.Itoa(n)+", call 0, ret"), api.OK, 0, 3+3+7*n)
	}
	for _, n := range []int{7, 8, 255} {
		wantOut(t, l, scr("push "+strconv.Itoa(n)+", call 0, ret"), api.ErrDeep, 0, 2+7*6)
	}
	wantOut(t, l, scr("call 1, ret"), api.ErrDeep, 0, 1+4+3*3)
}

// digits: code that makes one number of those on the stack, each below ten: the uppermost one becomes the first digit. It takes place 0 to lay the sum.
func digits(n int) string {
	text := "keep 0, "
	for i := 1; i < n; i++ {
		text += "move 0, call 1, add, keep 0, "
	}
	return text + "move 0"
}

// orders: 0 turns four numbers around and leaves the first one out, 1 is ten times a number, 2 has three results, 3 uses its stack and all its places, 4 to 6 make, send and open a coin, 7 has a thing between two numbers.
func orders() api.Module {
	return api.Module{Kinds: []int{0}, Funcs: []api.Func{
		fn("0000", "000", "", "move 3, move 2, move 1, ret"),
		fn("0", "0", "0", "copy 0, move 0, add, keep 1, copy 1, copy 1, add, keep 0, copy 0, move 0, add, move 1, add, ret"),
		fn("", "000", "", "push 1, push 2, push 3, ret"),
		fn("0000", "0", "0000", times(16, "push 1")+times(4, "drop")+"keep 4, keep 5, keep 6, keep 7, "+times(7, "add")+"drop, copy 0, move 1, add, move 2, add, move 3, add, ret"),
		fn("0", "1", "", "move 0, make 1, ret"),
		fn("10", "", "", "move 0, move 1, store 1, ret"),
		fn("1", "0", "", "move 0, open 1, ret"),
		fn("010", "100", "", "move 1, move 2, move 0, ret"),
	}}
}

func wantOrder(t *testing.T, text string, want int) {
	t.Helper()
	l := ledger(t, bytesFor(t, orders()))
	if o := l.Run(scrOf("00", text+", call 4, push 6, call 5, ret"), 0, 5000); o.Err != api.OK {
		t.Errorf("P7: %s: %v", text, o)
	}
	wantAmount(t, l, 6, 1, want, api.OK)
}

func TestRunOfParametersAndResults(t *testing.T) {
	wantOrder(t, "call 2, "+digits(3), 321)
	wantOrder(t, "push 5, call 2, "+digits(4), 3215)
	wantOrder(t, "push 6, push 7, push 8, push 9, call 0, "+digits(3), 789)
	wantOrder(t, "push 5, push 6, push 7, push 8, push 9, call 0, "+digits(4), 7895)
	// the stack is full, and the function fills one of its own
	wantOrder(t, times(12, "push 9")+"push 1, push 2, push 3, push 4, call 3, keep 0, "+times(12, "drop")+"move 0", 10)
	wantOrder(t, "push 3, push 4, keep 1, keep 0, push 1, push 1, push 1, push 1, call 3, drop, move 1, move 0, sub", 1)
	// a thing between two numbers: behind the call it is lowest
	wantOrder(t, "push 1, push 20, call 4, push 3, call 7, sub, keep 0, call 6, move 0, sub", 18)
}

// The places and the stack of a call are its own, even if the function is going on already.
func TestRunOfOwnPlacesAndStacks(t *testing.T) {
	m := house()
	// the sum of n, n-1, .. 1, each kept while the inner call goes on
	m.Funcs[7] = fn("0", "0", "0", "copy 0, jumpif 4, push 0, ret, push 50, keep 1, copy 0, push 1, sub, call 7, copy 0, add, move 1, add, push 50, sub, ret")
	b := bytesFor(t, m)
	for n, sum := range []int{0, 1, 3, 6, 10, 15, 21} {
		l := ledger(t, b)
		o := l.Run(scr("push "+strconv.Itoa(n)+", call 7, call 0, push 1, call 1, ret"), 0, 5000)
		if o.Err != api.OK {
			t.Errorf("P7: the sum up to %d: %v", n, o)
		}
		wantAmount(t, l, 1, 1, sum, api.OK)
	}
}
