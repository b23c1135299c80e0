package coffer_test

import (
	"strconv"
	"strings"
	"testing"

	"coffer/api"
	"coffer/coffer"
)

// coin: code for the house that makes a coin for an account; deed: the same with a deed. The last instruction but one that is done for it stores the thing.
func coin(n, to int) string {
	return "push " + strconv.Itoa(n) + ", call 0, push " + strconv.Itoa(to) + ", call 1, "
}

func deed(n, to int) string {
	return "push " + strconv.Itoa(n) + ", push " + strconv.Itoa(to) + ", call 4, "
}

const coinUsed, deedUsed = 11, 8

func TestRunStoresAndFetches(t *testing.T) {
	l := ledger(t, bytesFor(t, house()))
	for who := 0; who < 8; who++ {
		wantRun(t, l, scr(coin(10+who, who)+deed(20+who, who)+"ret"), 7-who, 100, outcome(api.OK, 0, coinUsed+deedUsed+1))
	}
	wantHeld(t, l, 1, [8]int{10, 11, 12, 13, 14, 15, 16, 17})
	wantHeld(t, l, 2, [8]int{20, 21, 22, 23, 24, 25, 26, 27})
	was := all(l)
	for who := 0; who < 8; who++ {
		wantRun(t, l, scr(coin(1, who)+"ret"), 0, 100, outcome(api.ErrThere, 0, coinUsed-1))
		wantRun(t, l, scr(deed(1, who)+"ret"), 0, 100, outcome(api.ErrThere, 0, deedUsed-1))
	}
	for _, to := range []int{8, 9, 16, 255} {
		wantRun(t, l, scr(coin(1, to)+"ret"), 0, 100, outcome(api.ErrArg, 0, coinUsed-1))
		wantRun(t, l, scr(deed(1, to)+"ret"), 0, 100, outcome(api.ErrArg, 0, deedUsed-1))
	}
	wantRun(t, l, scr("push 1, call 0, "+billion+"call 1, ret"), 0, 1000, outcome(api.ErrArg, 0, 5+billionUsed+4))
	// its own coin and deed, fetched and laid back
	for who := 0; who < 8; who++ {
		own := strconv.Itoa(who)
		wantRun(t, l, scr("call 2, push "+own+", call 1, push "+own+", call 5, ret"), who, 100, outcome(api.OK, 0, 16))
		wantRun(t, l, scr("call 2, push "+strconv.Itoa((who+1)%8)+", call 1, ret"), who, 100, outcome(api.ErrThere, 0, 8))
		wantRun(t, l, scr("call 2, push 8, call 1, ret"), who, 100, outcome(api.ErrArg, 0, 8))
		wantRun(t, l, scr("push 9, call 5, ret"), who, 100, outcome(api.ErrArg, 0, 5))
	}
	if now := all(l); now != was {
		t.Errorf("P7: %s became %s", was, now)
	}
	// the account's own alone is fetched, of that kind alone
	for who := 7; who >= 0; who-- {
		wantRun(t, l, scr("call 2, call 3, drop, ret"), who, 100, outcome(api.OK, 0, 9))
		wantRun(t, l, scr("call 2, call 3, drop, ret"), who, 100, outcome(api.ErrNone, 0, 2))
		wantAmount(t, l, who, 1, 0, api.ErrNone)
		wantAmount(t, l, who, 2, 20+who, api.OK)
		if who > 0 {
			wantAmount(t, l, who-1, 1, 9+who, api.OK)
		}
	}
	wantHeld(t, l, 2, [8]int{20, 21, 22, 23, 24, 25, 26, 27})
}

// Within one run: what was stored can be fetched, what was fetched is there no longer.
func TestRunSeesItsOwnChanges(t *testing.T) {
	b := bytesFor(t, house())
	l := ledger(t, b)
	wantOut(t, l, scr(coin(5, 0)+coin(6, 0)+"ret"), api.ErrThere, 0, 2*coinUsed-1)
	wantOut(t, l, scr(coin(5, 0)+"call 2, call 2, fail"), api.ErrNone, 0, coinUsed+3+2)
	wantHeld(t, l, 1, [8]int{-1, -1, -1, -1, -1, -1, -1, -1})
	wantOut(t, l, scr(coin(5, 0)+"call 2, push 3, call 1, "+coin(6, 0)+"ret"), api.OK, 0, 2*coinUsed+3+6+1)
	wantHeld(t, l, 1, [8]int{6, -1, -1, 5, -1, -1, -1, -1})
	// two coins at once on the stack
	l = ledger(t, b)
	wantOut(t, l, scr("push 1, call 0, push 2, call 0, push 4, call 1, push 5, call 1, ret"), api.OK, 0, 23)
	wantHeld(t, l, 1, [8]int{-1, -1, -1, -1, 2, 1, -1, -1})
	// a thing that is worth nothing is one, and so is one that is worth most
	l = ledger(t, b)
	wantOut(t, l, scr(coin(0, 0)+coin(0, 7)+"ret"), api.OK, 0, 2*coinUsed+1)
	wantOut(t, l, scr(billion+"push 2, call 4, ret"), api.OK, 0, billionUsed+1+6+1)
	wantHeld(t, l, 1, [8]int{0, -1, -1, -1, -1, -1, -1, 0})
	wantHeld(t, l, 2, [8]int{-1, -1, 1000000000, -1, -1, -1, -1, -1})
	wantOut(t, l, scr(coin(1, 7)+"ret"), api.ErrThere, 0, coinUsed-1)
	wantOut(t, l, scr("call 2, push 1, call 1, ret"), api.OK, 0, 10)
	wantHeld(t, l, 1, [8]int{-1, 0, -1, -1, -1, -1, -1, 0})
}

func TestRunOfHas(t *testing.T) {
	l := ledger(t, bytesFor(t, house()))
	wantOut(t, l, scr(coin(0, 0)+coin(9, 7)+deed(0, 3)+"ret"), api.OK, 0, 2*coinUsed+deedUsed+1)
	ask := func(who string, kind int) string {
		return scr("push " + who + ", has " + strconv.Itoa(kind) + ", push 1, same, jumpif 6, fail 10, fail 11")
	}
	for from := 0; from < 8; from++ {
		for who := 0; who < 8; who++ {
			code := [3]int{0, 10, 10}
			if who == 0 || who == 7 {
				code[1] = 11
			}
			if who == 3 {
				code[2] = 11
			}
			for kind := 1; kind <= 2; kind++ {
				wantRun(t, l, ask(strconv.Itoa(who), kind), from, 100, outcome(api.ErrFail, code[kind], 6))
			}
		}
		for _, who := range []string{"8", "9", "255"} {
			wantRun(t, l, ask(who, 1), from, 100, outcome(api.ErrArg, 0, 2))
			wantRun(t, l, ask(who, 2), from, 100, outcome(api.ErrArg, 0, 2))
		}
	}
	wantOut(t, l, scr(billion+"has 1, drop, ret"), api.ErrArg, 0, billionUsed+1)
	// nothing is taken away by asking
	wantHeld(t, l, 1, [8]int{0, -1, -1, -1, -1, -1, -1, 9})
	// within a run: it tells what is held then, and puts just 1 or 0
	wantOut(t, l, scr(coin(1, 2)+"push 2, has 1, push 1, same, jumpif 10, fail 1, fail 2"), api.ErrFail, 2, coinUsed+6)
	wantOut(t, l, scr("call 2, push 0, has 1, jumpif 5, fail 1, fail 2"), api.ErrFail, 1, 3+4)
	wantOut(t, l, scr("push 4, has 1, push 0, same, jumpif 6, fail 1, fail 2"), api.ErrFail, 2, 6)
}

func TestRunOfFail(t *testing.T) {
	l := ledger(t, bytesFor(t, api.Module{Kinds: []int{0}, Funcs: []api.Func{fn("", "", "", "push 1, fail 200"), fn("", "", "", "call 0, ret"), fn("", "1", "", "push 1, make 1, ret")}}))
	for n := 0; n <= 255; n++ {
		wantOut(t, l, scr("fail "+strconv.Itoa(n)), api.ErrFail, n, 1)
		wantOut(t, l, scr("push 1, drop, fail "+strconv.Itoa(n)+", ret"), api.ErrFail, n, 3)
	}
	wantOut(t, l, scr("call 0, ret"), api.ErrFail, 200, 3)
	wantOut(t, l, scr("call 1, ret"), api.ErrFail, 200, 4)
	wantOut(t, l, scrOf("1", "call 2, keep 0, call 2, fail 3"), api.ErrFail, 3, 4+1+4+1)
	// the number of one run is not that of the next one
	wantOut(t, l, scr("call 0, ret"), api.ErrFail, 200, 3)
	wantOut(t, l, scr("push 0, push 1, sub, drop, ret"), api.ErrOver, 0, 3)
	wantOut(t, l, scr("ret"), api.OK, 0, 1)
}

// Things of kinds that may be copied or dropped: each copy is a thing of its own.
func TestRunOfCopiesAndDrops(t *testing.T) {
	m := four(
		fn("0", "4", "", "move 0, make 4, ret"),
		fn("40", "", "", "move 0, move 1, store 4, ret"),
		fn("", "4", "", "fetch 4, ret"),
		fn("4", "0", "", "move 0, open 4, ret"),
		fn("0", "2", "", "move 0, make 2, ret"),
		fn("20", "", "", "move 0, move 1, store 2, ret"),
		fn("0", "3", "", "move 0, make 3, ret"),
	)
	l := ledger(t, bytesFor(t, m))
	wantOut(t, l, scrOf("4", "push 30, call 0, keep 0, copy 0, push 1, call 1, copy 0, push 2, call 1, push 31, call 0, keep 0, copy 0, push 3, call 1, ret"), api.OK, 0, 6+7+7+6+7+1)
	wantHeld(t, l, 4, [8]int{-1, 30, 30, 31, -1, -1, -1, -1})
	wantOut(t, l, scrOf("2", "push 40, call 4, keep 0, copy 0, push 1, call 5, move 0, push 7, call 5, ret"), api.OK, 0, 6+7+7+1)
	wantHeld(t, l, 2, [8]int{-1, 40, -1, -1, -1, -1, -1, 40})
	wantHeld(t, l, 4, [8]int{-1, 30, 30, 31, -1, -1, -1, -1})
	wantHeld(t, l, 3, [8]int{-1, -1, -1, -1, -1, -1, -1, -1})
	wantRun(t, l, scr("call 2, drop, ret"), 2, 100, outcome(api.OK, 0, 5))
	wantHeld(t, l, 4, [8]int{-1, 30, -1, 31, -1, -1, -1, -1})
	// what is dropped with its place, or with what is kept there anew, is gone
	wantRun(t, l, scrOf("43", "call 2, keep 0, push 1, call 6, keep 1, push 2, call 6, keep 1, push 9, call 0, keep 0, ret"), 1, 100, outcome(api.OK, 0, 4+6+6+6+1))
	wantHeld(t, l, 4, [8]int{-1, -1, -1, 31, -1, -1, -1, -1})
	wantHeld(t, l, 3, [8]int{-1, -1, -1, -1, -1, -1, -1, -1})
}

// Whatever a run has done ahead of its error: the accounts hold what they held.
func TestRunWithAnErrorChangesNothing(t *testing.T) {
	l := ledger(t, bytesFor(t, house()))
	wantOut(t, l, scr(coin(10, 0)+coin(11, 1)+deed(20, 0)+deed(22, 2)+"ret"), api.OK, 0, 2*(coinUsed+deedUsed)+1)
	was := all(l)
	// its coin goes to 3, its deed to 4, a new coin to it, a new deed to 7
	ahead := "call 2, push 3, call 1, push 4, call 5, " + coin(90, 0) + deed(91, 7)
	const aheadUsed = 9 + 6 + coinUsed + deedUsed
	for _, c := range []struct {
		text       string
		e          api.Errno
		code, used int
	}{
		{"fail 5", api.ErrFail, 5, 1}, {"fail 0", api.ErrFail, 0, 1}, {"push 0, push 1, sub, drop, ret", api.ErrOver, 0, 3}, {billion + "push 1, add, drop, ret", api.ErrOver, 0, billionUsed + 2},
		{"call 7, ret", api.ErrDeep, 0, 8}, {coin(1, 3) + "ret", api.ErrThere, 0, coinUsed - 1}, {coin(1, 1) + "ret", api.ErrThere, 0, coinUsed - 1}, {coin(1, 8) + "ret", api.ErrArg, 0, coinUsed - 1}, {deed(1, 255) + "ret", api.ErrArg, 0, deedUsed - 1},
		{"push 8, has 1, drop, ret", api.ErrArg, 0, 2}, {"call 2, call 2, fail", api.ErrNone, 0, 5}, {"push 1, call 5, ret", api.ErrNone, 0, 3}, {"call 2, call 3, drop, fail 9", api.ErrFail, 9, 9},
	} {
		wantOut(t, l, scr(ahead+c.text), c.e, c.code, aheadUsed+c.used)
		if now := all(l); now != was {
			t.Fatalf("P7: %s with error %d has made of %s: %s", c.text, c.e, was, now)
		}
	}
	for gas := 0; gas <= aheadUsed; gas++ {
		wantRun(t, l, scr(ahead+"ret"), 0, gas, outcome(api.ErrGas, 0, gas))
		if now := all(l); now != was {
			t.Fatalf("P7: gas %d has made of %s: %s", gas, was, now)
		}
	}
	for _, s := range []string{"", strings.Repeat("x", 1501), scr(ahead + "ret, fetch 1"), scr(ahead + "push 1, ret"), scr(ahead+"ret") + "x"} {
		if o := l.Run(s, 0, 1000); o.Err == api.OK || o.Code != 0 || o.Used != 0 || all(l) != was {
			t.Errorf("P7: %v, and the accounts hold %s", o, all(l))
		}
	}
	wantRun(t, l, scr(ahead+"ret"), 0, aheadUsed+1, outcome(api.OK, 0, aheadUsed+1))
	wantHeld(t, l, 1, [8]int{90, 11, -1, 10, -1, -1, -1, -1})
	wantHeld(t, l, 2, [8]int{-1, -1, 22, -1, 20, -1, -1, 91})
}

// Six kinds, all accounts: none is mistaken for another.
func TestAmountOfEveryAccountAndKind(t *testing.T) {
	m := api.Module{Kinds: make([]int, 6)}
	for kind := 1; kind <= 6; kind++ {
		k := strconv.Itoa(kind)
		m.Funcs = append(m.Funcs, fn("00", "", "", "move 0, make "+k+", move 1, store "+k+", ret"))
	}
	m.Funcs = append(m.Funcs, fn("", "", "", "fetch 6, push 7, store 6, fetch 1, push 0, store 1, ret"))
	l := ledger(t, bytesFor(t, m))
	held := map[[2]int]int{}
	check := func() {
		t.Helper()
		for _, who := range append(anyNumbers, -2, -1, 0, 1, 2, 3, 4, 5, 6, 7, 8, 9) {
			for _, kind := range append(anyNumbers, -2, -1, 0, 1, 2, 3, 4, 5, 6, 7, 8) {
				n, there := held[[2]int{who, kind}]
				switch {
				case who < 0 || who > 7 || kind < 1 || kind > 6:
					wantAmount(t, l, who, kind, 0, api.ErrArg)
				case there:
					wantAmount(t, l, who, kind, n, api.OK)
				default:
					wantAmount(t, l, who, kind, 0, api.ErrNone)
				}
			}
		}
	}
	check()
	for k := 0; k < 48; k++ {
		who, kind := k*29%48%8, 1+k*29%48/8
		wantOut(t, l, scr("push "+strconv.Itoa(100+k)+", push "+strconv.Itoa(who)+", call "+strconv.Itoa(kind-1)+", ret"), api.OK, 0, 9)
		held[[2]int{who, kind}] = 100 + k
		check()
	}
	wantRun(t, l, scr("call 6, ret"), 3, 100, outcome(api.ErrThere, 0, 4))
	check()
}

// Kinds that the module does not have are none, though others have them.
func TestAmountOfKindsThatThereAreNot(t *testing.T) {
	for kinds := 0; kinds <= 6; kinds++ {
		l := ledger(t, bytesFor(t, api.Module{Kinds: make([]int, kinds), Funcs: []api.Func{fn("", "", "", "ret")}}))
		for kind := 1; kind <= 7; kind++ {
			e := api.ErrNone
			if kind > kinds {
				e = api.ErrArg
			}
			for who := 0; who < 8; who++ {
				wantAmount(t, l, who, kind, 0, e)
			}
			wantAmount(t, l, 8, kind, 0, api.ErrArg)
			wantAmount(t, l, -1, kind, 0, api.ErrArg)
		}
	}
}

// Ledgers share nothing: neither those of one module nor those of two.
func TestLedgersSideBySide(t *testing.T) {
	b := bytesFor(t, house())
	ls := []*coffer.Ledger{ledger(t, b), ledger(t, bank), ledger(t, b), ledger(t, bank)}
	for round := 0; round < 8; round++ {
		for k, l := range ls {
			wantRun(t, l, scr(coin(10*k+round, round)+"ret"), k, 100, outcome(api.OK, 0, coinUsed+1))
			wantRun(t, l, scr(coin(99, round)+"ret"), k, 100, outcome(api.ErrThere, 0, coinUsed-1))
			coffer.New(b)
		}
		for k, l := range ls {
			want := [8]int{}
			for who := range want {
				want[who] = 10*k + who
				if who > round {
					want[who] = -1
				}
			}
			wantHeld(t, l, 1, want)
		}
	}
	wantRun(t, ls[2], scr("call 2, call 3, drop, ret"), 5, 100, outcome(api.OK, 0, 9))
	wantHeld(t, ls[0], 1, [8]int{0, 1, 2, 3, 4, 5, 6, 7})
	wantHeld(t, ls[2], 1, [8]int{20, 21, 22, 23, 24, -1, 26, 27})
	wantHeld(t, ledger(t, b), 1, [8]int{-1, -1, -1, -1, -1, -1, -1, -1})
}
