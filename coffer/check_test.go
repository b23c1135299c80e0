package coffer_test

import (
	"strconv"
	"strings"
	"testing"

	"coffer/api"
	"coffer/coffer"
)

func TestCheckExamples(t *testing.T) {
	coin := func(may int) string { return by(67, 70, 1, may, 1) }
	plain := by(67, 70, 0, 1)
	for k, c := range []struct {
		b  string
		e  api.Errno
		at int
	}{
		{bank, api.OK, 0},
		{coin(0) + by(1, 1, 0, 0, 1, 0, 0), api.ErrFlow, 0},
		{coin(2) + by(1, 1, 0, 0, 1, 0, 0), api.OK, 0},
		{coin(0) + by(1, 1, 0, 0, 2, 9, 0, 11, 0), api.ErrFlow, 0},
		{coin(2) + by(1, 1, 0, 0, 2, 9, 0, 11, 0), api.ErrFlow, 0},
		{plain + by(0, 0, 0, 4, 1, 1, 7, 0, 1, 5, 0, 0), api.ErrFlow, 0},
		{plain + by(0, 0, 0, 5, 1, 1, 7, 0, 1, 5, 11, 0, 0, 0), api.OK, 0},
		{plain + by(0, 0, 0, 4, 1, 1, 1, 0, 7, 0, 0, 0), api.ErrFlow, 0},
		{plain + by(0, 0, 0, 3, 0, 0, 2, 0, 12, 1), api.ErrForm, 13},
		{plain + by(0, 0, 0, 3, 0, 0, 2, 0, 2, 0), api.OK, 0},
	} {
		if e, at := coffer.Check(c.b); e != c.e || at != c.at {
			t.Errorf("P5: Check, line %d = %d, %d, want %d, %d", k, e, at, c.e, c.at)
		}
	}
}

// Behind each piece of code stands Fail, which goes well in every state: so the piece alone is judged.
func TestCheckOfWhatIsTaken(t *testing.T) {
	for text, sound := range map[string]bool{
		"add": false, "push 1, add": false, "push 1, push 2, add": true,
		"push 1, fetch 4, add": false, "fetch 4, push 1, add": false, "fetch 4, fetch 4, add": false,
		"sub": false, "push 1, sub": false, "push 1, push 2, sub": true,
		"push 1, fetch 4, sub": false, "fetch 4, push 1, sub": false,
		"less": false, "push 1, less": false, "push 1, push 2, less": true,
		"push 1, fetch 4, less": false, "fetch 4, push 1, less": false,
		"same": false, "push 1, same": false, "push 1, push 2, same": true,
		"push 1, fetch 4, same": false, "fetch 4, push 1, same": false, "fetch 4, fetch 4, same": false,
		"jumpif 0": false, "push 1, jumpif 2": true, "fetch 4, jumpif 2": false,
		"drop": false, "push 1, drop": true, "push 1, drop, drop": false,
		"fetch 1, drop": false, "fetch 2, drop": false, "fetch 3, drop": true, "fetch 4, drop": true,
		"make 1": false, "push 1, make 1": true, "push 1, make 4": true, "fetch 1, make 1": false, "fetch 4, make 1": false,
		"open 1": false, "fetch 1, open 1": true, "fetch 2, open 1": false, "fetch 1, open 2": false, "push 1, open 1": false, "fetch 4, open 4": true,
		"store 1": false, "push 1, store 1": false, "fetch 1, store 1": false, "fetch 1, push 1, store 1": true,
		"push 1, fetch 1, store 1": false, "fetch 2, push 1, store 1": false, "fetch 1, push 1, store 2": false, "push 1, push 1, store 1": false,
		"fetch 1, fetch 1, store 1": false, "fetch 4, push 1, store 4": true,
		"has 1": false, "push 1, has 1": true, "push 1, has 4": true, "fetch 1, has 1": false, "fetch 4, has 4": false,
		"push 0": true, "push 255": true, "fetch 1": true, "fetch 4": true, "": true,
	} {
		wantSound(t, sound, fn("", "", "", text+", fail"))
	}
}

// What is left on the stack is told by Ret, which wants just the results.
func TestCheckOfWhatIsPut(t *testing.T) {
	for _, c := range []struct{ text, results string }{
		{"push 7", "0"}, {"push 1, push 2, add", "0"}, {"push 1, push 2, sub", "0"}, {"push 1, push 2, less", "0"}, {"push 1, push 2, same", "0"},
		{"fetch 1, push 1, push 2, add", "10"}, {"fetch 1, push 1, jumpif 3", "1"}, {"fetch 1, jump 2", "1"},
		{"copy 2", "2"}, {"copy 4", "4"}, {"copy 0", "0"}, {"fetch 1, copy 4", "14"}, {"copy 4, copy 2, copy 4", "424"},
		{"move 0", "0"}, {"move 3", "3"}, {"move 4, move 3", "43"},
		{"push 1, keep 0", ""}, {"fetch 4, push 1, keep 0", "4"}, {"fetch 4, keep 4", ""},
		{"push 1, drop", ""}, {"fetch 1, push 1, drop", "1"}, {"push 1, fetch 3, drop", "0"},
		{"push 1, make 2", "2"}, {"push 0, push 1, make 2", "02"}, {"fetch 2, open 2", "0"}, {"fetch 1, fetch 2, open 2", "10"},
		{"fetch 3", "3"}, {"push 1, fetch 3", "03"}, {"push 1, fetch 3, push 1, store 3", "0"}, {"push 1, has 3", "0"}, {"fetch 1, push 1, has 3", "10"},
		{"", ""}, {"fetch 1, fetch 2, fetch 3", "123"},
	} {
		for _, results := range []string{"", "0", "1", "2", "3", "4", "00", "01", "10", "02", "03", "12", "14", "43", "34", "23", "123", "321", "424", "244", "442", "000", c.results} {
			// Places 0, 2, 3, 4 are of the kinds 0, 2, 3, 4; the copyable one is moved away, for it may not be lost.
			text := c.text + ", move 2, open 2, drop, ret"
			wantSound(t, results == c.results, fn("0123", results, "4", "move 1, open 1, drop, fetch 4, keep 4, "+shift(text, 5)))
		}
	}
}

// shift: code whose jumps go so many instructions farther.
func shift(text string, by int) string {
	parts := strings.Split(text, ", ")
	for i, p := range parts {
		if w := strings.Fields(p); len(w) == 2 && strings.HasPrefix(w[0], "jump") {
			n, _ := strconv.Atoi(w[1])
			parts[i] = w[0] + " " + strconv.Itoa(n+by)
		}
	}
	return strings.Join(parts, ", ")
}

func TestCheckOfPlaces(t *testing.T) {
	for kind := 0; kind <= 4; kind++ {
		k := strconv.Itoa(kind)
		get := "fetch " + k
		if kind == 0 {
			get = "push 1"
		}
		mayCopy := kind == 0 || fourKinds[max(kind-1, 0)]&api.MayCopy != 0
		mayDrop := kind == 0 || fourKinds[max(kind-1, 0)]&api.MayDrop != 0
		for _, c := range []struct {
			param, text string
			sound       bool
		}{
			{k, "copy 0, fail", mayCopy}, {k, "copy 0, copy 0, fail", mayCopy}, {k, "copy 0, move 0, fail", mayCopy}, {k, "move 0, copy 0, fail", false},
			{k, "copy 1, fail", false}, {k, get + ", keep 1, copy 1, fail", mayCopy},
			{k, "move 0, fail", true}, {k, "move 0, move 0, fail", false}, {k, "move 1, fail", false}, {k, get + ", keep 1, move 1, fail", true}, {k, get + ", keep 1, move 1, move 1, fail", false},
			{k, get + ", keep 1, fail", true}, {k, get + ", keep 0, fail", mayDrop}, {k, get + ", keep 1, " + get + ", keep 1, fail", mayDrop},
			{k, "move 0, keep 0, move 0, keep 1, fail", true}, {k, "move 0, keep 1, " + get + ", keep 0, fail", true}, {k, "keep 1, fail", false},
			{k, "drop, fail", false}, {k, "move 0, drop, fail", mayDrop}, {k, "move 0, drop, ret", mayDrop},
			{k, "ret", mayDrop}, {"", get + ", keep 0, ret", mayDrop}, {"", "ret", true}, {k, "move 0, keep 1, ret", mayDrop},
			{k, "move 0, keep 1, move 1, keep 0, move 0, drop, ret", mayDrop}, {k, "copy 0, drop, fail", mayCopy && mayDrop},
		} {
			wantSound(t, c.sound, fn(c.param, "", k, c.text))
		}
		for other := 0; other <= 4; other++ {
			wantSound(t, other == kind, fn("", "", strconv.Itoa(other), get+", keep 0, fail"))
			wantSound(t, other == kind, fn("", strconv.Itoa(other), k, get+", keep 0, move 0, ret"))
		}
	}
}

// Parameters come first among the places, then the locals, up to the eighth.
func TestCheckOfEveryPlace(t *testing.T) {
	for params := 0; params <= 4; params++ {
		for locals := 0; locals <= 4; locals++ {
			p, l := strings.Repeat("3", params), strings.Repeat("3", locals)
			for i := 0; i < params+locals; i++ {
				n := strconv.Itoa(i)
				wantSound(t, i < params, fn(p, "", l, "move "+n+", drop, ret"))
				wantSound(t, true, fn(p, "", l, "fetch 3, keep "+n+", move "+n+", drop, ret"))
				// One place of another kind, which may not be lost, among those that may.
				q := p + l
				q = q[:i] + "1" + q[i+1:]
				wantSound(t, i >= params, fn(q[:params], "", q[params:], "ret"))
				wantSound(t, false, fn(q[:params], "", q[params:], "fetch 1, keep "+n+", ret"))
				wantSound(t, i < params, fn(q[:params], "", q[params:], "move "+n+", open 1, drop, ret"))
				wantSound(t, i >= params, fn(q[:params], "1", q[params:], "fetch 1, keep "+n+", move "+n+", ret"))
			}
		}
	}
}

func TestCheckOfResults(t *testing.T) {
	lists := []string{""}
	for i := 0; i < len(lists); i++ {
		if len(lists[i]) < 3 {
			lists = append(lists, lists[i]+"0", lists[i]+"1", lists[i]+"2")
		}
	}
	for _, put := range lists {
		text := ""
		for _, c := range put {
			if c == '0' {
				text += "push 1, "
			} else {
				text += "fetch " + string(c) + ", "
			}
		}
		for _, results := range lists {
			wantSound(t, put == results, fn("", results, "", text+"ret"))
		}
		wantSound(t, false, fn("", put, "", text+"push 1, ret"))
		wantSound(t, false, fn("", put, "", "push 1, "+text+"ret"))
	}
}

func TestCheckOfTheStacksHeight(t *testing.T) {
	// Each piece is done with so many numbers on the stack that it goes just well; with one more it does not.
	for _, c := range []struct {
		piece string
		fits  int
	}{
		{"push 1", 15}, {"copy 0", 15}, {"move 0", 15}, {"fetch 1", 15}, {"call 1", 15}, {"call 2", 14}, {"call 3", 13}, {"call 4", 15},
		{"push 1, add", 15}, {"push 1, make 1, open 1", 15}, {"push 1, has 1", 15}, {"fetch 1, open 1", 15}, {"fetch 1, push 1, store 1", 14}, {"push 1, keep 0", 15}, {"push 1, drop", 15},
	} {
		for n := c.fits - 2; n <= 16; n++ {
			wantSound(t, n <= c.fits, fn("0", "", "", times(n, "push 0")+c.piece+", fail"),
				fn("", "0", "", "push 1, ret"), fn("", "00", "", "push 1, push 1, ret"), fn("", "000", "", "push 1, push 1, push 1, ret"), fn("0", "00", "", "move 0, push 1, ret"))
		}
	}
	// These go well with all 16.
	for _, piece := range []string{"add", "sub", "less", "same", "jumpif 17", "jump 17", "keep 0", "drop", "make 1", "has 1", "call 1", "call 2", "call 3"} {
		others := []api.Func{fn("0", "0", "", "move 0, ret"), fn("0", "", "", "ret"), fn("0000", "000", "", "move 0, move 1, move 2, ret")}
		wantSound(t, true, append([]api.Func{fn("0", "", "", times(16, "push 0")+piece+", fail")}, others...)...)
		wantSound(t, false, append([]api.Func{fn("0", "", "", times(16, "push 0")+piece+", push 0, push 0, fail")}, others...)...)
	}
	wantSound(t, true, fn("", "", "", times(15, "push 0")+"fetch 1, open 1, fail"))
	wantSound(t, true, fn("", "", "", times(14, "push 0")+"fetch 1, push 0, store 1, fail"))
	wantSound(t, true, fn("", "", "", times(16, "push 0")+times(16, "drop")+"ret"))
	wantSound(t, false, fn("", "", "", times(17, "push 0")+times(17, "drop")+"ret"))
	wantSound(t, false, fn("", "", "", times(16, "push 0")+times(17, "drop")+"ret"))
}

func TestCheckOfTheNextInstruction(t *testing.T) {
	for _, c := range []struct {
		ahead, op string
		needs     bool
	}{
		{"", "ret", false}, {"", "push 1", true}, {"push 1, push 1", "add", true}, {"push 1, push 1", "sub", true}, {"push 1, push 1", "less", true}, {"push 1, push 1", "same", true},
		{"", "jump 0", false}, {"push 1", "jumpif 0", true}, {"", "copy 0", true}, {"", "move 0", true}, {"push 1", "keep 0", true}, {"push 1", "drop", true},
		{"push 1", "make 1", true}, {"fetch 1", "open 1", true}, {"", "call 1", true}, {"", "fetch 1", true}, {"fetch 1, push 1", "store 1", true}, {"push 1", "has 1", true}, {"", "fail 3", false},
	} {
		text := c.op
		if c.ahead != "" {
			text = c.ahead + ", " + c.op
		}
		wantSound(t, !c.needs, fn("0", "", "", text), fn("", "", "", "ret"))
		wantSound(t, true, fn("0", "", "", text+", fail"), fn("", "", "", "ret"))
		// A next instruction of another function is none of this one.
		wantCheck(t, four(fn("", "", "", "ret"), fn("0", "", "", text), fn("", "", "", "ret")), map[bool]api.Errno{true: api.ErrFlow}[c.needs], map[bool]int{true: 1}[c.needs])
	}
}

func TestCheckOfFail(t *testing.T) {
	for _, f := range []api.Func{
		fn("1111", "222", "1", "fail"), fn("1", "", "", "move 0, fail 255"), fn("", "0", "", "fetch 1, fetch 2, fail 9, add"), fn("", "", "1", "fetch 1, keep 0, fail 1"),
	} {
		wantSound(t, true, f)
	}
}

func TestCheckOfCalls(t *testing.T) {
	two := fn("013", "20", "", "move 1, open 1, drop, fetch 2, push 0, ret")
	for text, sound := range map[string]bool{
		"push 1, fetch 1, fetch 3, call 1": true, "push 1, fetch 1, push 1, make 3, call 1": true,
		"fetch 1, fetch 3, call 1": false, "push 1, fetch 1, call 1": false, "call 1": false,
		"push 1, fetch 3, fetch 1, call 1": false, "fetch 3, fetch 1, push 1, call 1": false, "fetch 1, push 1, fetch 3, call 1": false,
		"push 1, fetch 1, fetch 4, call 1": false, "push 1, fetch 2, fetch 3, call 1": false, "fetch 4, fetch 1, fetch 3, call 1": false,
		"push 1, fetch 1, fetch 3, push 1, call 1": false, "push 7, push 1, fetch 1, fetch 3, call 1": true,
		"push 1, fetch 1, fetch 3, call 1, drop, open 2, drop": true, "push 1, fetch 1, fetch 3, call 1, open 2": false,
		"push 1, fetch 1, fetch 3, call 1, drop, drop": false, "push 1, fetch 1, fetch 3, call 1, drop, open 2, drop, drop": false,
	} {
		wantSound(t, sound, fn("", "", "", text+", fail"), two)
	}
	wantSound(t, true, fn("", "20", "", "push 1, fetch 1, fetch 3, call 1, ret"), two)
	wantSound(t, false, fn("", "02", "", "push 1, fetch 1, fetch 3, call 1, ret"), two)
	wantSound(t, false, fn("", "2", "", "push 1, fetch 1, fetch 3, call 1, ret"), two)
	// The callee's locals and the caller's places are nothing to the call.
	wantSound(t, true, fn("1", "1", "", "call 1, move 0, ret"), fn("", "", "1111", "ret"))
	// A call of the caller itself.
	wantSound(t, true, fn("", "", "", "call 0, ret"))
	wantSound(t, true, fn("01", "1", "", "move 0, move 1, call 0, ret"))
	wantSound(t, false, fn("01", "1", "", "move 1, move 0, call 0, ret"))
	wantSound(t, false, fn("0", "", "", "call 0, ret"))
	wantSound(t, true, fn("0", "", "", "copy 0, call 0, ret"))
	wantSound(t, false, fn("", "0", "", "call 0, call 0, ret"))
	// A function that is not sound does not spoil the one that calls it.
	wantCheck(t, four(fn("", "", "", "call 1, ret"), fn("", "", "", "add, ret")), api.ErrFlow, 1)
	wantCheck(t, four(fn("", "0", "", "ret"), fn("", "0", "", "call 0, ret")), api.ErrFlow, 0)
}

// Each of eight functions calls each: ahead of it, behind it and itself. Their signatures are told apart by what they take and give.
func TestCheckOfCallsOfEveryFunction(t *testing.T) {
	type signature struct{ params, results, get, rid string }
	l := []signature{
		{"", "4", "", "open 4, drop, "}, {"0", "", "push 1, ", ""}, {"", "0", "", "push 1, add, drop, "}, {"1", "2", "fetch 1, ", "open 2, drop, "},
		{"10", "", "fetch 1, push 0, ", ""}, {"01", "3", "push 0, fetch 1, ", "open 3, drop, "}, {"3333", "34", times(4, "fetch 3"), "open 4, drop, open 3, drop, "}, {"12", "21", "fetch 1, fetch 2, ", "open 1, drop, open 2, drop, "},
	}
	for caller := range l {
		for callee := range l {
			for as := range l {
				funcs := []api.Func{}
				for _, s := range l {
					funcs = append(funcs, fn(s.params, s.results, "", "fail"))
				}
				// The stack must be empty again, as it was: else the jump to the first instruction is wrong.
				funcs[caller].Code = code(l[as].get + "call " + strconv.Itoa(callee) + ", " + l[as].rid + "jump 0")
				if as == callee {
					wantCheck(t, four(funcs...), api.OK, 0)
				} else {
					wantCheck(t, four(funcs...), api.ErrFlow, caller)
				}
			}
		}
	}
}

func TestCheckTellsTheFirst(t *testing.T) {
	for set := 0; set < 256; set++ {
		funcs := []api.Func{}
		first := -1
		for i := 0; i < 8; i++ {
			f := fn("", "", "", "push 1, drop, ret")
			if set>>i&1 == 1 {
				f = fn("", "", "", []string{"drop, ret", "push 1, ret", "push 1, drop", "push 1, jumpif 0"}[i%4])
				if first < 0 {
					first = i
				}
			}
			funcs = append(funcs, f)
		}
		if first < 0 {
			wantCheck(t, four(funcs...), api.OK, 0)
		} else {
			wantCheck(t, four(funcs...), api.ErrFlow, first)
		}
	}
}
