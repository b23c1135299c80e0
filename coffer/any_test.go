package coffer_test

import (
	"math/rand"
	"testing"

	"coffer/api"
	"coffer/coffer"
)

// checkDecode: whatever the bytes, the answer is one that P1 and P3 allow.
func checkDecode(t *testing.T, b string) {
	t.Helper()
	m, e, at := coffer.Decode(b)
	nothing := len(m.Kinds) == 0 && len(m.Funcs) == 0
	fine := false
	switch e {
	case api.OK:
		s, f := coffer.Encode(m)
		fine = len(b) <= 1500 && at == 0 && s == b && f == api.OK
	case api.ErrLong:
		fine = len(b) > 1500 && at == 0 && nothing
	case api.ErrForm:
		fine = len(b) <= 1500 && at >= 0 && at <= len(b) && nothing
	}
	if !fine {
		t.Errorf("P1: Decode of %v = %v, %d, %d", show(b), m, e, at)
	}
	if e == api.ErrForm {
		// The bytes ahead of the place are not at fault: alone they end too early, or are a module.
		if _, f, p := coffer.Decode(b[:at]); f != api.OK && (f != api.ErrForm || p != at) {
			t.Errorf("P3: Decode of %v is ErrForm and %d, but of the bytes ahead of it %d and %d", show(b), at, f, p)
		}
	}
}

func TestDecodeOfAnyBytes(t *testing.T) {
	r := rand.New(rand.NewSource(3))
	for k := 0; k < 20000; k++ {
		l := make([]byte, r.Intn(60))
		top := 1 + r.Intn(256)
		for i := range l {
			l[i] = byte(r.Intn(top))
		}
		checkDecode(t, string(l))
		checkDecode(t, "CF"+string(l))
	}
	for k := 0; k < 3000; k++ {
		l := []byte(bytesOf(someModule(r, 1+r.Intn(100))))
		checkDecode(t, string(l))
		for n := r.Intn(4); n >= 0; n-- {
			l[r.Intn(len(l))] = byte(r.Intn(1 + r.Intn(256)))
		}
		checkDecode(t, string(l))
		checkDecode(t, string(l[r.Intn(len(l)):]))
		checkDecode(t, string(l[:r.Intn(len(l))]))
	}
	for n := 0; n <= 1600; n++ {
		checkDecode(t, string(make([]byte, n)))
		checkDecode(t, "CF"+string(make([]byte, n)))
	}
}

// anyList: a list of any numbers, now and then a long one, or none at all.
func anyList(r *rand.Rand, top int) []int {
	n := r.Intn(6)
	switch r.Intn(12) {
	case 0:
		return nil
	case 1:
		n = r.Intn(600)
	}
	l := make([]int, n)
	for i := range l {
		l[i] = r.Intn(top)
		if r.Intn(40) == 0 {
			l[i] = anyNumbers[r.Intn(len(anyNumbers))]
		}
	}
	return l
}

func anyModule(r *rand.Rand) api.Module {
	m := api.Module{Kinds: anyList(r, 4)}
	for n := r.Intn(11); n > 0; n-- {
		f := api.Func{Params: anyList(r, 3), Results: anyList(r, 3), Locals: anyList(r, 3)}
		ops := anyList(r, 20)
		args := anyList(r, 3)
		for i := range ops {
			x := api.Instr{Op: ops[i]}
			if i < len(args) {
				x.Arg = args[i]
			}
			f.Code = append(f.Code, x)
		}
		m.Funcs = append(m.Funcs, f)
	}
	return m
}

func TestEncodeOfAnyModule(t *testing.T) {
	r := rand.New(rand.NewSource(4))
	for k := 0; k < 50000; k++ {
		m := anyModule(r)
		s, e := coffer.Encode(m)
		if e == api.OK {
			if g := wantModule(t, s); !sameModule(g, m) {
				t.Errorf("P4: %v, read again: %v", m, g)
			}
		} else if (e != api.ErrForm && e != api.ErrLong) || s != "" {
			t.Errorf("P1: Encode of %v = %d bytes, %d", m, len(s), e)
		}
	}
}
