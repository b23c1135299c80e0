package coffer_test

import (
	"math/rand"
	"strings"
	"testing"

	"coffer/api"
	"coffer/coffer"
)

// wantForm: Decode of b must be ErrForm and the place, with a module of nothing.
func wantForm(t *testing.T, b string, at int) {
	t.Helper()
	m, e, p := coffer.Decode(b)
	if e != api.ErrForm || p != at || len(m.Kinds) != 0 || len(m.Funcs) != 0 {
		t.Errorf("P3: Decode of %v = %v, %d, %d, want ErrForm, %d", show(b), m, e, p, at)
	}
}

// wantModule: Decode of b must be OK, and the module must be written as b again.
func wantModule(t *testing.T, b string) api.Module {
	t.Helper()
	m, e, p := coffer.Decode(b)
	if e != api.OK || p != 0 {
		t.Errorf("P3: Decode of %v = %d, %d, want OK, 0", show(b), e, p)
		return m
	}
	s, e := coffer.Encode(m)
	if s != b || e != api.OK {
		t.Errorf("P4: Encode of %v = %v, %d, want %v", m, show(s), e, show(b))
	}
	return m
}

func TestDecodeExamples(t *testing.T) {
	wantModule(t, bank)
	m := wantModule(t, by(67, 70, 0, 1, 0, 0, 0, 1, 0, 0))
	if !sameModule(m, api.Module{Funcs: []api.Func{{Code: []api.Instr{{Op: api.Ret}}}}}) {
		t.Errorf("P3: Ret alone = %v", m)
	}
	wantForm(t, "", 0)
	wantForm(t, by(67, 70), 2)
	wantForm(t, by(67, 70, 7), 2)
	wantForm(t, by(67, 70, 1, 4), 3)
	wantForm(t, by(67, 70, 0, 0), 3)
	wantForm(t, by(67, 70, 0, 1, 0, 0, 0, 0), 7)
	wantForm(t, by(67, 70, 0, 1, 0, 0, 0, 1, 0, 1), 9)
	wantForm(t, by(67, 70, 0, 1, 0, 0, 0, 1, 6, 1), 9)
	wantForm(t, by(67, 70, 0, 1, 0, 0, 0, 1, 12, 1), 9)
	wantForm(t, by(67, 70, 0, 1, 0, 0, 0, 1, 19, 0), 8)
	wantForm(t, by(67, 70, 0, 1, 0, 0, 0, 1, 0, 0, 0), 10)
}

func TestDecodeGivesEveryPart(t *testing.T) {
	if m := wantModule(t, rich); !sameModule(m, richModule()) {
		t.Errorf("P3: Decode = %v, want %v", m, richModule())
	}
}

// Soundness is not asked: nothing here could run.
func TestDecodeTakesUnsoundCode(t *testing.T) {
	wantModule(t, by(67, 70, 1, 0, 1, 1, 1, 0, 0, 1, 0, 0))
	wantModule(t, by(67, 70, 0, 1, 0, 0, 0, 2, 2, 0, 11, 0))
}

// TestDecodeCounts: each count at its limits and outside of them.
func TestDecodeCounts(t *testing.T) {
	zeros := func(n int) string { return strings.Repeat("\x00", n) }
	ret := by(0, 0, 0, 1, 0, 0)
	for _, c := range []struct {
		head        string
		least, most int
		tail        func(n int) string // what must come behind the count n
	}{
		{"CF", 0, 6, func(n int) string { return zeros(n) + by(1) + ret }},
		{by(67, 70, 0), 1, 8, func(n int) string { return strings.Repeat(ret, n) }},
		{by(67, 70, 0, 1), 0, 4, func(n int) string { return zeros(n) + by(0, 0, 1, 0, 0) }},
		{by(67, 70, 0, 1, 0), 0, 3, func(n int) string { return zeros(n) + by(0, 1, 0, 0) }},
		{by(67, 70, 0, 1, 0, 0), 0, 4, func(n int) string { return zeros(n) + by(1, 0, 0) }},
		{by(67, 70, 0, 1, 0, 0, 0), 1, 100, func(n int) string { return zeros(2 * n) }},
	} {
		for n := 0; n <= 255; n++ {
			b := c.head + by(n) + c.tail(n)
			if n >= c.least && n <= c.most {
				wantModule(t, b)
				wantForm(t, b[:len(b)-1], len(b)-1)
			} else {
				wantForm(t, b[:min(len(b), api.MaxBytes)], len(c.head))
				wantForm(t, b[:len(c.head)+1], len(c.head))
			}
		}
		wantForm(t, c.head, len(c.head))
	}
}

// TestDecodeArguments: every argument of every operation, with more and less to be measured by; the operation itself may stand even where no argument would do.
func TestDecodeArguments(t *testing.T) {
	for op := 0; op <= 18; op++ {
		for _, e := range []env{{0, 1, 0, 1}, {1, 1, 1, 2}, {2, 2, 2, 1}, {6, 8, 8, 100}, {3, 2, 5, 7}} {
			low, high := argsOf(op, e)
			params := min(4, e.places)
			head := "CF" + by(e.kinds) + strings.Repeat("\x00", e.kinds) + by(e.funcs)
			head += by(params) + strings.Repeat("\x00", params) + by(0)
			head += by(e.places-params) + strings.Repeat("\x00", e.places-params) + by(e.code, op)
			tail := strings.Repeat("\x00\x00", e.code-1) + strings.Repeat(by(0, 0, 0, 1, 0, 0), e.funcs-1)
			wantForm(t, head, len(head))
			for arg := 0; arg <= 255; arg++ {
				if arg >= low && arg <= high {
					wantModule(t, head+by(arg)+tail)
				} else {
					wantForm(t, head+by(arg)+tail, len(head))
				}
			}
		}
	}
	for op := 19; op <= 255; op++ {
		wantForm(t, by(67, 70, 0, 1, 0, 0, 0, 1, op, 0), 8)
	}
}

// TestDecodePlaces: in every place of many modules a byte that cannot stand there, whatever is behind it; bytes that end too early; a byte behind the end.
func TestDecodePlaces(t *testing.T) {
	r := rand.New(rand.NewSource(1))
	for k := 0; k < 300; k++ {
		slots := someModule(r, 1+k%10)
		b := bytesOf(slots)
		wantModule(t, b)
		for i, s := range slots {
			wantForm(t, b[:i], i)
			for _, v := range []int{0, s.low - 1, s.high + 1, 128 + r.Intn(128), 255} {
				if v < 0 || v > 255 || (v >= s.low && v <= s.high) {
					continue
				}
				wantForm(t, b[:i]+by(v)+b[i+1:], i)
				wantForm(t, b[:i]+by(v), i)
				wantForm(t, b[:i]+by(v)+"\xff\xff\xff", i)
			}
		}
		for _, v := range []int{0, 1, 67, 255} {
			wantForm(t, b+by(v), len(b))
		}
		wantForm(t, b+b, len(b))
	}
}

func TestDecodeLong(t *testing.T) {
	for _, n := range []int{1499, 1500} {
		m := longModule(n)
		b, e := coffer.Encode(m)
		if e != api.OK || len(b) != n {
			t.Fatalf("P4: Encode of %d bytes = %d bytes, %d", n, len(b), e)
		}
		if g := wantModule(t, b); !sameModule(g, m) {
			t.Errorf("P3: a module of %d bytes is another one", n)
		}
	}
	b, _ := coffer.Encode(longModule(1500))
	wantForm(t, b[:1499], 1499)
	// A last function with one instruction more than there are bytes for.
	at := 1500 - 2*len(longModule(1500).Funcs[7].Code) - 1
	wantForm(t, b[:at]+by(int(b[at])+1)+b[at+1:], 1500)
	for _, c := range []string{b + "\x00", b[:at-1] + "\x01\x00" + b[at:], strings.Repeat("x", 1501), strings.Repeat("C", 1<<22)} {
		if m, e, p := coffer.Decode(c); e != api.ErrLong || p != 0 || len(m.Kinds) != 0 || len(m.Funcs) != 0 {
			t.Errorf("P3: Decode of %d bytes = %v, %d, %d, want ErrLong, 0", len(c), m, e, p)
		}
	}
	wantForm(t, strings.Repeat("x", 1500), 0)
}
