package coffer_test

import (
	"strconv"
	"strings"
	"testing"

	"coffer/api"
	"coffer/coffer"
)

func TestCheckOfJumps(t *testing.T) {
	for text, sound := range map[string]bool{
		// on and on
		"jump 0": true, "jump 1, jump 0": true, "push 1, jumpif 0, ret": true, "push 1, drop, jump 0": true,
		"push 1, jump 0": false, "push 1, jumpif 1, ret": false, "push 1, push 1, jumpif 1, drop, ret": true, "push 1, push 1, jumpif 0, drop, ret": false,
		"jump 2, ret, jump 1": true, "jump 2, ret, push 1, jump 1": false, "jump 2, ret, push 1, drop, jump 1": true,
		// to the next one, in two ways
		"push 1, jumpif 2, ret": true, "jump 1, ret": true, "push 1, push 1, jumpif 3, drop, ret": true,
		// the way of the jump is judged as well as the other one
		"push 1, jumpif 3, ret, add, ret": false, "push 1, jumpif 3, add, ret": false, "push 1, jumpif 4, push 1, drop, ret, fail": true,
		// two ways that meet, with stacks of one height or of two
		"push 1, jumpif 3, push 1, ret": false, "push 1, jumpif 4, push 1, drop, ret": true,
		"push 1, jumpif 4, push 2, jump 5, push 3, drop, ret": true, "push 1, jumpif 4, push 2, jump 5, fetch 4, drop, ret": false, "push 1, jumpif 4, fetch 4, jump 5, fetch 4, drop, ret": true,
		"push 1, jumpif 4, fetch 3, jump 5, fetch 4, drop, ret": false, "push 1, jumpif 4, fetch 3, jump 5, fetch 4, fail": false,
		"push 1, jumpif 4, fetch 4, jump 6, push 1, make 4, drop, ret": true,
		// what has been taken from the stack is forgotten
		"push 1, jumpif 4, fetch 4, drop, push 1, drop, ret": true, "push 1, jumpif 5, fetch 3, push 1, store 3, ret": true,
		"push 1, jumpif 7, fetch 3, fetch 4, drop, drop, jump 7, ret": true,
		// a difference far below
		"push 1, jumpif 5, fetch 3, push 1, jump 7, fetch 4, push 1, fail": false, "push 1, jumpif 5, fetch 3, push 1, jump 7, fetch 3, push 1, fail": true,
		// a loop that gathers values
		"push 1, copy 0, jumpif 0, ret": false, "push 1, drop, copy 0, jumpif 0, ret": true,
	} {
		wantSound(t, sound, fn("0", "", "", text))
	}
}

// Two ways meet with just one value that differs, at each height of the stack.
func TestCheckOfStacksThatDiffer(t *testing.T) {
	for height := 1; height <= 15; height++ {
		for i := 0; i <= height; i++ {
			one, two := make([]string, height), make([]string, height)
			for k := range one {
				one[k], two[k] = "fetch 3", "fetch 3"
			}
			if i < height {
				two[i] = "fetch 4"
			}
			text := "push 1, jumpif " + strconv.Itoa(3+height) + ", " + strings.Join(one, ", ") + ", jump " + strconv.Itoa(3+2*height) + ", " + strings.Join(two, ", ")
			wantSound(t, i == height, fn("", "", "", text+", fail"))
			wantSound(t, i == height, fn("", "", "", text+", "+times(height, "drop")+"ret"))
		}
	}
}

// Two ways meet, and just one place is empty on one of them and full on the other.
func TestCheckOfPlacesThatDiffer(t *testing.T) {
	for i := 0; i < 8; i++ {
		n := strconv.Itoa(i)
		for text, sound := range map[string]bool{
			"push 1, jumpif 4, fetch 4, keep " + n + ", ret":                                 i < 4,
			"push 1, jumpif 4, fetch 4, keep " + n + ", fail":                                i < 4,
			"fetch 4, keep " + n + ", push 1, jumpif 6, fetch 4, keep " + n + ", ret":        true,
			"fetch 4, keep " + n + ", push 1, jumpif 6, move " + n + ", drop, ret":           false,
			"fetch 4, keep " + n + ", push 1, jumpif 6, move " + n + ", keep " + n + ", ret": true,
			"fetch 4, keep " + n + ", move " + n + ", drop, push 1, jumpif 0, ret":           i >= 4,
			"fetch 4, keep " + n + ", push 1, jumpif 0, ret":                                 i < 4,
			// each way has a Ret of its own: nothing meets
			"fetch 4, keep " + n + ", push 1, jumpif 7, move " + n + ", drop, ret, ret": true,
		} {
			wantSound(t, sound, fn("4444", "", "4444", text))
		}
	}
}

func TestCheckOfWhatIsNeverReached(t *testing.T) {
	for _, junk := range []string{"add", "drop", "push 1", "jumpif 0", "jump 0", "ret", "copy 0", "move 0", "keep 0", "make 1", "open 1", "call 0", "store 1", "has 1", "fetch 1", "fail"} {
		wantSound(t, true, fn("", "", "1", "ret, "+junk))
		wantSound(t, true, fn("", "", "1", "ret, "+junk+", "+junk))
		wantSound(t, true, fn("", "", "1", "fail, "+junk))
		wantSound(t, true, fn("", "", "1", "jump 0, "+junk))
		wantSound(t, true, fn("", "", "1", "jump 2, "+junk+", ret"))
		wantSound(t, true, fn("", "", "1", "jump 2, "+junk+", ret, "+junk))
		// It does not lead anywhere: so it brings no second state to where it would lead.
		wantSound(t, true, fn("", "", "1", "jump 3, push 1, "+junk+", ret"))
		wantSound(t, true, fn("", "", "1", "jump 4, push 1, push 1, jump 0, ret"))
	}
	// It is reached behind all, from a jump.
	wantSound(t, false, fn("", "", "", "jump 2, add, push 1, jumpif 1, ret"))
	wantSound(t, false, fn("", "", "", "jump 2, ret, push 1, push 1, jumpif 1, drop, ret"))
	wantSound(t, true, fn("", "", "", "jump 2, ret, push 1, jumpif 1, ret"))
}

func TestCheckOfHundredInstructions(t *testing.T) {
	for text, sound := range map[string]bool{
		times(49, "push 1, drop") + "push 1, drop":     false,
		times(49, "push 1, drop") + "jump 99, ret":     true,
		times(49, "push 1, drop") + "jump 0, add":      true,
		times(49, "push 1, drop") + "push 1, jumpif 0": false,
		times(49, "push 1, drop") + "drop, ret":        false,
		times(49, "push 1, drop") + "fail, drop":       true,
		"jump 99, " + times(98, "add") + "ret":         true,
		"jump 99, " + times(98, "add") + "push 1":      false,
		"jump 99, " + times(98, "add") + "jump 98":     false,
		"jump 99, ret, " + times(97, "add") + "jump 1": true,
		times(99, "jump 99") + "jump 0":                true,
		times(99, "call 0") + "ret":                    true,
		times(100, "call 0"):                           false,
	} {
		wantSound(t, sound, fn("", "", "", text))
	}
	// All the way back from the last one: each instruction is reached from the one behind it.
	for _, end := range []string{"ret", "add"} {
		text := "jump 99, " + end
		for i := 2; i <= 99; i++ {
			text += ", jump " + strconv.Itoa(i-1)
		}
		wantSound(t, end == "ret", fn("", "", "", text))
	}
	// Each JumpIf goes to the last instruction: it is reached in fifty ways.
	wantSound(t, true, fn("", "", "", times(49, "push 1, jumpif 99")+"jump 99, ret"))
	wantSound(t, false, fn("", "", "", times(49, "push 1, jumpif 99")+"push 1, ret"))
	// Seven such functions, of which just the last is wrong.
	funcs := []api.Func{}
	for i := 0; i < 7; i++ {
		funcs = append(funcs, fn("", "", "", times(49, "push 1, jumpif 98")+"call 6, ret"))
	}
	wantCheck(t, four(funcs...), api.OK, 0)
	funcs[6].Code[99].Op = api.Drop
	wantCheck(t, four(funcs...), api.ErrFlow, 6)
}

func wantCheckOf(t *testing.T, b string, e api.Errno, at int) {
	t.Helper()
	if f, p := coffer.Check(b); f != e || p != at {
		t.Errorf("P5: Check of %v = %d, %d, want %d, %d", show(b), f, p, e, at)
	}
}

func TestCheckOfWrongBytes(t *testing.T) {
	wantCheckOf(t, "", api.ErrForm, 0)
	wantCheckOf(t, "C", api.ErrForm, 1)
	wantCheckOf(t, "cF", api.ErrForm, 0)
	wantCheckOf(t, bank+"\x00", api.ErrForm, len(bank))
	for i := range bank {
		wantCheckOf(t, bank[:i], api.ErrForm, i)
	}
	wantCheckOf(t, strings.Repeat("C", 1501), api.ErrLong, 0)
	wantCheckOf(t, strings.Repeat("C", 1500), api.ErrForm, 1)
	wantCheckOf(t, bank+strings.Repeat("\x00", 1501-len(bank)), api.ErrLong, 0)
	wantCheckOf(t, bank+strings.Repeat("\x00", 1500-len(bank)), api.ErrForm, len(bank))
	// Function 0 is not sound, but the bytes are wrong behind it.
	wrong := by(67, 70, 0, 2) + by(0, 0, 0, 1, 2, 0)
	wantCheckOf(t, wrong+by(0, 0, 0, 1, 0, 0), api.ErrFlow, 0)
	wantCheckOf(t, wrong, api.ErrForm, 10)
	wantCheckOf(t, wrong+by(0, 0, 0, 1, 0), api.ErrForm, 15)
	wantCheckOf(t, wrong+by(0, 0, 0, 1, 0, 1), api.ErrForm, 15)
	wantCheckOf(t, wrong+by(0, 0, 0, 1, 19, 0), api.ErrForm, 14)
	wantCheckOf(t, wrong+by(0, 0, 0, 1, 0, 0, 7), api.ErrForm, 16)
	// 1500 bytes are not too many; a function that is not sound does not matter with one more.
	m := longModule(1500)
	wantCheck(t, m, api.OK, 0)
	m.Funcs[3].Code[0].Op = api.Add
	wantCheck(t, m, api.ErrFlow, 3)
	b, _ := coffer.Encode(m)
	wantCheckOf(t, b+"\x00", api.ErrLong, 0)
	wantCheckOf(t, b[:1499], api.ErrForm, 1499)
}
