package coffer_test

import (
	"strings"
	"testing"

	"coffer/api"
)

func TestLedgerExamples(t *testing.T) {
	l := ledger(t, bank)
	mint := by(0, 0, 0, 5, 1, 50, 14, 0, 1, 3, 14, 1, 0, 0)
	wantRun(t, l, mint, 0, 100, outcome(api.OK, 0, 12))
	wantAmount(t, l, 3, 1, 50, api.OK)
	wantAmount(t, l, 0, 1, 0, api.ErrNone)
	wantAmount(t, l, 3, 2, 0, api.ErrArg)
	wantAmount(t, l, 8, 1, 0, api.ErrArg)
	wantRun(t, l, mint, 0, 100, outcome(api.ErrThere, 0, 10))
	wantAmount(t, l, 3, 1, 50, api.OK)
	wantRun(t, l, mint, 0, 9, outcome(api.ErrGas, 0, 9))
	give := by(0, 0, 0, 4, 14, 2, 1, 5, 14, 1, 0, 0)
	wantRun(t, l, give, 3, 100, outcome(api.OK, 0, 10))
	wantRun(t, l, give, 3, 100, outcome(api.ErrNone, 0, 2))
	wantHeld(t, l, 1, [8]int{-1, -1, -1, -1, -1, 50, -1, -1})
	wantRun(t, l, by(0, 0, 0, 4, 14, 2, 14, 3, 11, 0, 0, 0), 5, 100, outcome(api.OK, 0, 9))
	wantHeld(t, l, 1, [8]int{-1, -1, -1, -1, -1, -1, -1, -1})
	wantRun(t, l, by(0, 0, 0, 2, 18, 7, 0, 0), 0, 100, outcome(api.ErrFail, 7, 1))
	wantRun(t, l, by(0, 0, 0, 1, 6, 0), 0, 30, outcome(api.ErrGas, 0, 30))
	wantRun(t, l, by(0, 0, 0, 5, 1, 0, 1, 1, 3, 0, 11, 0, 0, 0), 0, 100, outcome(api.ErrOver, 0, 3))
	wantRun(t, l, by(0, 0, 0, 2, 12, 1, 0, 0), 0, 100, outcome(api.ErrForm, 0, 0))
	wantRun(t, l, by(0, 0, 0, 4, 1, 9, 14, 0, 11, 0, 0, 0), 0, 100, outcome(api.ErrFlow, 0, 0))
	wantRun(t, l, by(0, 0, 0, 1, 0, 0), 8, 100, outcome(api.ErrArg, 0, 0))
	wantRun(t, l, by(0, 0, 0, 1, 0, 0), 0, -1, outcome(api.ErrArg, 0, 0))
	l = ledger(t, by(67, 70, 0, 1)+by(0, 0, 0, 2, 14, 0, 0, 0))
	wantRun(t, l, scr("call 0, ret"), 0, 100, outcome(api.ErrDeep, 0, 8))
}

// Wrong arguments go ahead of a script that is too long, that one ahead of one that is none, that one ahead of one that is not sound.
func TestRunNamesErrorsInOrder(t *testing.T) {
	l := ledger(t, bytesFor(t, house()))
	wantOut(t, l, scr("push 9, call 0, push 2, call 1, ret"), api.OK, 0, 12)
	was := all(l)
	long, none, unsound := strings.Repeat("x", 1501), scr("add, make 1, ret"), scr("push 1, ret")
	for _, script := range []string{long, none, unsound, scr("ret"), "", scr("push 1, call 0, push 0, call 1, ret")} {
		for _, who := range []int{-1, 8, 9, 255, 256, 1 << 32, -8, 1<<63 - 1, -1 << 63} {
			wantRun(t, l, script, who, 100, outcome(api.ErrArg, 0, 0))
			wantRun(t, l, script, who, -1, outcome(api.ErrArg, 0, 0))
			wantRun(t, l, script, who, 0, outcome(api.ErrArg, 0, 0))
		}
		for _, gas := range []int{-1, 10001, 10002, 1 << 32, 1<<63 - 1, -1 << 63} {
			for who := 0; who < 8; who++ {
				wantRun(t, l, script, who, gas, outcome(api.ErrArg, 0, 0))
			}
		}
	}
	for _, gas := range []int{0, 1, 100, 10000} {
		for who := 0; who < 8; who++ {
			wantRun(t, l, long, who, gas, outcome(api.ErrLong, 0, 0))
			wantRun(t, l, scr("ret")+strings.Repeat("\x00", 1495), who, gas, outcome(api.ErrLong, 0, 0))
			wantRun(t, l, long[:1500], who, gas, outcome(api.ErrForm, 0, 0))
			wantRun(t, l, scr("ret")+strings.Repeat("\x00", 1494), who, gas, outcome(api.ErrForm, 0, 0))
			wantRun(t, l, none, who, gas, outcome(api.ErrForm, 0, 0))
			wantRun(t, l, unsound, who, gas, outcome(api.ErrFlow, 0, 0))
		}
	}
	if now := all(l); now != was {
		t.Errorf("P7: refused scripts have changed %s into %s", was, now)
	}
}

// Scripts have neither parameters nor results, and none of the four operations, not even where the code never comes.
func TestRunOfWhatIsNoScript(t *testing.T) {
	l := ledger(t, bytesFor(t, house()))
	for _, s := range []string{
		funcBytes(fn("0", "", "", "ret")), funcBytes(fn("1", "", "", "move 0, push 1, call 1, ret")), funcBytes(fn("0000", "", "", "ret")),
		funcBytes(fn("", "0", "", "push 1, ret")), funcBytes(fn("", "1", "", "call 2, ret")), funcBytes(fn("", "000", "", "push 1, push 1, push 1, ret")), funcBytes(fn("0", "0", "", "move 0, ret")),
		funcBytes(fn("00000", "", "", "ret")), funcBytes(fn("", "0000", "", "ret")),
		scr("push 1, make 1, push 1, call 1, ret"), scr("call 2, open 1, drop, ret"), scr("fetch 1, push 1, call 1, ret"), scr("call 2, push 1, store 1, ret"),
		scr("ret, make 1"), scr("ret, open 1"), scr("ret, fetch 1"), scr("ret, store 1"), scr("make 2, ret"), scr("ret, push 1, drop, ret, store 2"), scr("jump 2, fetch 2, ret"),
		scr("ret, make 3"), scr("ret, has 3"), scr("ret, has 0"), scr("ret, call 8"), scr("ret, call 255"), scr("ret, copy 0"), scr("ret, move 0"), scr("ret, keep 0"), scr("ret, jump 2"), scr("jumpif 2, ret"),
		scr("ret 1"), scr("ret, add 1"), scr("ret, drop 1"),
		scrOf("3", "ret"), scrOf("00000", "ret"), scrOf("00", "ret, copy 2"), scr(""), "", by(0), by(0, 0), by(0, 0, 0), by(0, 0, 0, 1), by(0, 0, 0, 1, 0), by(0, 0, 0, 1, 0, 0, 0), by(0, 0, 0, 2, 0, 0), by(0, 0, 0, 1, 19, 0),
		by(0, 0, 0, 101) + strings.Repeat("\x00", 202), bank, bytesFor(t, house()),
	} {
		wantOut(t, l, s, api.ErrForm, 0, 0)
	}
	wantOut(t, l, by(0, 0, 0, 100)+strings.Repeat("\x00", 200), api.OK, 0, 1)
	wantOut(t, l, scrOf("0122", "ret, has 1, has 2, call 7, copy 3, jump 5"), api.OK, 0, 1)
	for _, s := range []string{
		scr("push 1, ret"), scr("push 1, drop"), scr("add, ret"), scr("call 2, ret"), scr("call 2, drop, ret"), scrOf("1", "call 2, keep 0, ret"), scrOf("1", "move 0, push 1, call 1, ret"), scrOf("2", "call 2, keep 0, fail"),
		scr("call 0, fail"), scr("push 1, call 2, call 1, ret"), scr("push 1, jumpif 0"), scr("push 1, jump 0"), scr(times(17, "push 1") + "fail"), scr("call 2, has 1, fail"), scrOf("1", "call 2, keep 0, copy 0, fail"),
	} {
		wantOut(t, l, s, api.ErrFlow, 0, 0)
	}
	// what is a script for one module is none for another
	small := ledger(t, by(67, 70, 0, 1, 0, 0, 0, 1, 0, 0))
	wantOut(t, small, scr("ret, has 1"), api.ErrForm, 0, 0)
	wantOut(t, small, scr("ret, call 1"), api.ErrForm, 0, 0)
	wantOut(t, small, scrOf("1", "ret"), api.ErrForm, 0, 0)
	wantOut(t, small, scr("call 0, ret"), api.OK, 0, 3)
	if now := all(l); now != "" {
		t.Errorf("P7: refused scripts have made %s", now)
	}
}

func TestRunOfNumbers(t *testing.T) {
	wantNumber(t, "", "push 0", 0)
	wantNumber(t, "", "push 255", 255)
	wantNumber(t, "", "push 0, push 0, add", 0)
	wantNumber(t, "", "push 255, push 254, add", 509)
	wantNumber(t, "", "push 9, push 9, sub", 0)
	wantNumber(t, "", "push 9, push 4, sub", 5)
	wantNumber(t, "", "push 9, push 0, sub", 9)
	wantNumber(t, "", "push 100, push 9, push 4, sub, sub", 95)
	wantNumber(t, "", billion, 1000000000)
	wantNumber(t, "", billion+"push 0, add", 1000000000)
	wantNumber(t, "", "push 0, "+billion+"add", 1000000000)
	wantNumber(t, "", billion+"push 1, sub", 999999999)
	wantNumber(t, "", billion+"push 1, sub, push 1, add", 1000000000)
	wantNumber(t, "", billion+billion+"sub", 0)
	wantNumber(t, "", billion+"push 5, less", 0)
	l := ledger(t, bytesFor(t, house()))
	for text, used := range map[string]int{
		billion + "push 1, add": billionUsed + 2, "push 1, " + billion + "add": billionUsed + 2, billion + billion + "add": 2*billionUsed + 1, billion + "push 255, add": billionUsed + 2,
		billion + "call 6": billionUsed + 4, "push 0, push 1, sub": 3, "push 254, push 255, sub": 3, "push 0, " + billion + "sub": billionUsed + 2, "push 255, " + billion + "sub": billionUsed + 2,
		"push 4, push 9, sub": 3, "push 5, push 3, push 9, sub, sub": 4,
	} {
		wantOut(t, l, scr(text+", drop, ret"), api.ErrOver, 0, used)
	}
}

func TestRunOfComparisons(t *testing.T) {
	texts := []string{"push 0, ", "push 1, ", "push 2, ", "push 255, ", billion + "push 1, sub, ", billion}
	for i, a := range texts {
		for k, b := range texts {
			less, same := 0, 0
			if i < k {
				less = 1
			}
			if i == k {
				same = 1
			}
			wantNumber(t, "", a+b+"less", less)
			wantNumber(t, "", a+b+"same", same)
		}
	}
}

func TestRunOfJumps(t *testing.T) {
	l := ledger(t, bytesFor(t, house()))
	for _, c := range []struct {
		text string
		e    api.Errno
		n    int
		used int
	}{
		{"jump 2, fail 1, fail 2", api.ErrFail, 2, 2},
		{"jump 1, fail 1", api.ErrFail, 1, 2},
		{"jump 3, ret, fail 9, jump 1", api.OK, 0, 3},
		{"push 0, jumpif 3, fail 1, fail 2", api.ErrFail, 1, 3},
		{"push 1, jumpif 3, fail 1, fail 2", api.ErrFail, 2, 3},
		{"push 2, jumpif 3, fail 1, fail 2", api.ErrFail, 2, 3},
		{"push 255, jumpif 3, fail 1, fail 2", api.ErrFail, 2, 3},
		{"push 1, jumpif 2, ret", api.OK, 0, 3},
		{"push 0, jumpif 2, ret", api.OK, 0, 3},
		{"push 0, jumpif 0, ret", api.OK, 0, 3},
		{"push 4, push 0, jumpif 0, drop, ret", api.ErrFlow, 0, 0},
		{billion + "jumpif 10, fail 1, fail 2", api.ErrFail, 2, billionUsed + 2},
		{"jump 1, jump 2, jump 3, jump 4, ret", api.OK, 0, 5},
	} {
		wantOut(t, l, scr(c.text), c.e, c.n, c.used)
	}
	// 7, 6, .. 0: the loop is done seven times
	wantOut(t, l, scrOf("0", "push 7, keep 0, copy 0, push 1, sub, keep 0, copy 0, jumpif 2, ret"), api.OK, 0, 2+7*6+1)
	wantOut(t, l, scrOf("0", "push 7, keep 0, jump 7, copy 0, push 1, sub, keep 0, copy 0, jumpif 3, ret"), api.OK, 0, 3+2+7*6+1)
}

func TestRunOfPlaces(t *testing.T) {
	wantNumber(t, "0", "push 5, keep 0, copy 0, copy 0, add, move 0, add", 15)
	wantNumber(t, "0", "push 5, keep 0, push 6, keep 0, move 0", 6)
	wantNumber(t, "0", "push 5, keep 0, move 0, keep 0, copy 0", 5)
	wantNumber(t, "0000", "push 1, keep 0, push 2, keep 1, push 4, keep 2, push 8, keep 3, move 3, move 1, sub", 6)
	wantNumber(t, "0000", "push 1, keep 3, push 2, keep 2, push 4, keep 1, push 8, keep 0, move 0, move 3, sub, move 2, move 1, add, add", 13)
	wantNumber(t, "", "push 9, push 5, drop", 9)
	wantNumber(t, "", times(15, "push 3")+times(14, "add"), 45)
	wantNumber(t, "", times(16, "push 3")+times(15, "add"), 48)
	wantNumber(t, "1", "push 8, call 0, keep 0, push 9, move 0, call 3, sub", 1)
}
