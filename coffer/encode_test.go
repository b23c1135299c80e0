package coffer_test

import (
	"math"
	"math/rand"
	"testing"

	"coffer/api"
	"coffer/coffer"
)

// wantRefused: Encode of m must be this error, with no bytes.
func wantRefused(t *testing.T, name string, m api.Module, want api.Errno) {
	t.Helper()
	if s, e := coffer.Encode(m); e != want || s != "" {
		t.Errorf("P4: %s: Encode = %d bytes, %d, want %d", name, len(s), e, want)
	}
}

func TestEncodeGivesEveryPart(t *testing.T) {
	if s, e := coffer.Encode(richModule()); s != rich || e != api.OK {
		t.Errorf("P4: Encode = %v, %d, want %v", show(s), e, show(rich))
	}
	for _, m := range []api.Module{
		{Funcs: []api.Func{{Code: []api.Instr{{}}}}},
		{Kinds: []int{}, Funcs: []api.Func{{Params: []int{}, Results: []int{}, Locals: []int{}, Code: []api.Instr{{}}}}},
	} {
		if s, e := coffer.Encode(m); s != by(67, 70, 0, 1, 0, 0, 0, 1, 0, 0) || e != api.OK {
			t.Errorf("P4: Ret alone = %v, %d", show(s), e)
		}
	}
}

// TestEncodeLengths: each list at its limits and far outside of them (those of 256 elements more would have the same byte as count).
func TestEncodeLengths(t *testing.T) {
	for _, c := range []struct {
		name        string
		least, most int
		set         func(m *api.Module, n int)
	}{
		{"kinds", 0, 6, func(m *api.Module, n int) { m.Kinds = make([]int, n) }},
		{"parameters", 0, 4, func(m *api.Module, n int) { m.Funcs[1].Params = make([]int, n) }},
		{"results", 0, 3, func(m *api.Module, n int) { m.Funcs[1].Results = make([]int, n) }},
		{"locals", 0, 4, func(m *api.Module, n int) { m.Funcs[1].Locals = make([]int, n) }},
		{"instructions", 1, 100, func(m *api.Module, n int) { m.Funcs[1].Code = make([]api.Instr, n) }},
		{"functions", 1, 8, func(m *api.Module, n int) {
			m.Funcs = make([]api.Func, n)
			for i := range m.Funcs {
				m.Funcs[i].Code = make([]api.Instr, 1)
			}
		}},
	} {
		lengths := []int{65536, 65537, 65540, 1 << 20}
		for n := 0; n <= 520; n++ {
			lengths = append(lengths, n)
		}
		for _, n := range lengths {
			m := api.Module{Funcs: []api.Func{{Code: make([]api.Instr, 1)}, {Code: make([]api.Instr, 1)}}}
			c.set(&m, n)
			if n < c.least || n > c.most {
				wantRefused(t, c.name, m, api.ErrForm)
				continue
			}
			s, e := coffer.Encode(m)
			if e != api.OK {
				t.Errorf("P4: %s, %d of them: %d, want OK", c.name, n, e)
			}
			if g, _, _ := coffer.Decode(s); !sameModule(g, m) {
				t.Errorf("P4: %s, %d of them, read again: %v", c.name, n, g)
			}
		}
	}
}

var anyNumbers = []int{math.MinInt, math.MinInt + 1, math.MinInt32, -65536, -512, -257, -256, -255, -1, 0, 1, 2, 3, 4, 5, 6, 7, 8, 18, 19, 99, 100, 255, 256, 257, 258, 264, 274, 275, 511, 512, 65536, 65537, math.MaxInt32, 1 << 32, 1<<32 + 1, math.MaxInt - 255, math.MaxInt}

// TestEncodeNumbers: any number in the place of each number of many modules.
func TestEncodeNumbers(t *testing.T) {
	r := rand.New(rand.NewSource(2))
	for k := 0; k < 100; k++ {
		slots := someModule(r, 1+k%8)
		b := bytesOf(slots)
		m := wantModule(t, b)
		numbers := numbersOf(m)
		for i, s := range slots {
			if s.fixed {
				continue
			}
			p := numbers[0]
			numbers = numbers[1:]
			for _, v := range append([]int{s.low - 1, s.low, s.high, s.high + 1, s.value + 256, s.value - 256}, anyNumbers...) {
				*p = v
				if v < s.low || v > s.high {
					wantRefused(t, "a number", m, api.ErrForm)
				} else if g, e := coffer.Encode(m); !s.op && (e != api.OK || g != b[:i]+by(v)+b[i+1:]) {
					t.Errorf("P4: %d as byte %d of %v: %v, %d", v, i, show(b), show(g), e)
				}
			}
			*p = s.value
		}
		if len(numbers) != 0 {
			t.Fatalf("the numbers of a module are not those of its bytes")
		}
	}
}

// TestEncodeArguments: arguments of every operation, also where none would do.
func TestEncodeArguments(t *testing.T) {
	for op := 0; op <= 18; op++ {
		for _, e := range []env{{0, 1, 0, 1}, {1, 1, 1, 2}, {2, 2, 2, 1}, {6, 8, 8, 100}, {3, 2, 5, 7}} {
			low, high := argsOf(op, e)
			params := min(4, e.places)
			m := api.Module{Kinds: make([]int, e.kinds), Funcs: make([]api.Func, e.funcs)}
			for i := range m.Funcs {
				m.Funcs[i].Code = make([]api.Instr, 1)
			}
			code := make([]api.Instr, e.code)
			m.Funcs[e.funcs-1] = api.Func{Params: make([]int, params), Locals: make([]int, e.places-params), Code: code}
			for _, v := range append([]int{low - 1, low, high, high + 1}, anyNumbers...) {
				code[e.code-1] = api.Instr{Op: op, Arg: v}
				if v < low || v > high {
					wantRefused(t, "an argument", m, api.ErrForm)
				} else if s, f := coffer.Encode(m); f != api.OK || s[len(s)-2:] != by(op, v) {
					t.Errorf("P4: operation %d with %d: %d bytes, %d", op, v, len(s), f)
				}
			}
		}
	}
}

func TestEncodeRefusesNothing(t *testing.T) {
	wantRefused(t, "no function", api.Module{}, api.ErrForm)
	wantRefused(t, "no function, but kinds", api.Module{Kinds: []int{1}}, api.ErrForm)
	wantRefused(t, "no code", api.Module{Funcs: make([]api.Func, 1)}, api.ErrForm)
}

func TestEncodeLong(t *testing.T) {
	if s, e := coffer.Encode(longModule(1500)); e != api.OK || len(s) != 1500 {
		t.Errorf("P4: the longest module: %d bytes, %d", len(s), e)
	}
	wantRefused(t, "1501 bytes", longModule(1501), api.ErrLong)
	wantRefused(t, "1502 bytes", longModule(1502), api.ErrLong)
	most := api.Module{Kinds: make([]int, 6)}
	for i := 0; i < 8; i++ {
		most.Funcs = append(most.Funcs, api.Func{Params: make([]int, 4), Results: make([]int, 3), Locals: make([]int, 4), Code: make([]api.Instr, 100)})
	}
	wantRefused(t, "as much as a module has", most, api.ErrLong)
	most.Funcs[7].Code[99].Arg = 1
	wantRefused(t, "as much, and a last argument that is none", most, api.ErrForm)
}
