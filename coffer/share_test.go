package coffer_test

import (
	"strings"
	"testing"

	"coffer/api"
	"coffer/coffer"
)

// roomy: a list with the same elements and spare room behind them, filled with marks.
func roomy[T any](l []T, mark T) []T {
	all := append([]T{}, l...)
	for i := 0; i < 5; i++ {
		all = append(all, mark)
	}
	return all[:len(l)]
}

var (
	instrMark = api.Instr{Op: -7, Arg: 77}
	funcMark  = api.Func{Params: []int{70}, Results: []int{71}, Locals: []int{72}, Code: []api.Instr{instrMark}}
)

// roomyModule: the same module, every list of it with spare room.
func roomyModule(m api.Module) api.Module {
	out := api.Module{Kinds: roomy(m.Kinds, -7), Funcs: roomy(m.Funcs, funcMark)}
	for i, f := range m.Funcs {
		out.Funcs[i] = api.Func{Params: roomy(f.Params, -7), Results: roomy(f.Results, -7), Locals: roomy(f.Locals, -7), Code: roomy(f.Code, instrMark)}
	}
	return out
}

// full: the same module, its spare room made part of its lists.
func full(m api.Module) api.Module {
	out := api.Module{Kinds: m.Kinds[:cap(m.Kinds)]}
	for _, f := range m.Funcs[:cap(m.Funcs)] {
		out.Funcs = append(out.Funcs, api.Func{Params: f.Params[:cap(f.Params)], Results: f.Results[:cap(f.Results)], Locals: f.Locals[:cap(f.Locals)], Code: f.Code[:cap(f.Code)]})
	}
	return out
}

// bad: a module with one instruction that is none, at the very end.
func bad() api.Module {
	m := richModule()
	m.Funcs[1].Code[1].Arg = 1
	return m
}

func TestEncodeWritesIntoNothing(t *testing.T) {
	for k, c := range []struct {
		m api.Module
		e api.Errno
	}{{richModule(), api.OK}, {bad(), api.ErrForm}, {longModule(1501), api.ErrLong}, {api.Module{}, api.ErrForm}} {
		m, twin := roomyModule(c.m), roomyModule(c.m)
		if _, e := coffer.Encode(m); e != c.e {
			t.Errorf("P4: module %d with spare room: %d, want %d", k, e, c.e)
		}
		if !sameModule(m, twin) || !sameModule(full(m), full(twin)) {
			t.Errorf("P2: Encode has written into module %d", k)
		}
	}
}

// The lists of a module may lie in one another's spare room.
func TestEncodeOfListsThatOverlap(t *testing.T) {
	all := []int{0, 1, 0, 1, 1, 0}
	m := api.Module{Kinds: all[:2], Funcs: []api.Func{{Params: all[:4], Results: all[1:4], Locals: all[2:], Code: []api.Instr{{}}}}}
	want := by(67, 70, 2, 0, 1, 1, 4, 0, 1, 0, 1, 3, 1, 0, 1, 4, 0, 1, 1, 0, 1, 0, 0)
	if s, e := coffer.Encode(m); s != want || e != api.OK {
		t.Errorf("P4: Encode = %v, %d, want %v", show(s), e, show(want))
	}
	if !sameList(all, []int{0, 1, 0, 1, 1, 0}) {
		t.Errorf("P2: Encode has written into its lists: %v", all)
	}
}

func TestEncodeKeepsNothing(t *testing.T) {
	m := roomyModule(richModule())
	s, _ := coffer.Encode(m)
	for _, p := range numbersOf(full(m)) {
		*p = 99
	}
	if s != rich {
		t.Errorf("P2: the bytes have changed with the module: %v", show(s))
	}
	if again, e := coffer.Encode(richModule()); again != rich || e != api.OK {
		t.Errorf("P2: Encode hangs on an earlier module: %v, %d", show(again), e)
	}
}

func scribble[T any](l []T, mark T) {
	l = l[:cap(l)]
	for i := range l {
		l[i] = mark
	}
}

// scribbleOver: list k of a module with two functions is written over, its spare room too.
func scribbleOver(m *api.Module, k int) {
	if k == 0 {
		scribble(m.Kinds, 88)
		return
	}
	if k == 9 {
		scribble(m.Funcs, funcMark)
		return
	}
	f := m.Funcs[(k-1)/4]
	switch (k - 1) % 4 {
	case 0:
		scribble(f.Params, 88)
	case 1:
		scribble(f.Results, 88)
	case 2:
		scribble(f.Locals, 88)
	case 3:
		scribble(f.Code, instrMark)
	}
}

func TestDecodeGivesFreshLists(t *testing.T) {
	for _, b := range []string{rich, by(67, 70, 0, 2, 0, 0, 0, 1, 0, 0, 0, 0, 0, 1, 0, 0)} {
		for k := 0; k <= 9; k++ {
			m, _, _ := coffer.Decode(b)
			other, _, _ := coffer.Decode(b)
			want := roomyModule(m)
			scribbleOver(&m, k)
			scribbleOver(&want, k)
			if !sameModule(m, want) {
				t.Errorf("P2: two lists of a module share something: list %d written over: %v, want %v", k, m, want)
			}
			if s, e := coffer.Encode(other); s != b || e != api.OK {
				t.Errorf("P2: two modules share list %d: %v", k, other)
			}
			wantModule(t, b)
		}
	}
}

// The owner may lengthen a list: what comes behind it must be nobody else's.
func TestDecodedListsMayGrow(t *testing.T) {
	m := wantModule(t, rich)
	_ = append(m.Kinds, 88)
	_ = append(m.Funcs, funcMark)
	for _, f := range m.Funcs {
		_ = append(f.Params, 88)
		_ = append(f.Results, 88)
		_ = append(f.Locals, 88)
		_ = append(f.Code, instrMark)
	}
	if !sameModule(m, richModule()) {
		t.Errorf("P2: lists have grown into one another: %v", m)
	}
}

func TestAnswersHangOnArgumentsAlone(t *testing.T) {
	long := strings.Repeat("C", 1501)
	for k := 0; k < 3; k++ {
		for _, b := range []string{rich, bank, rich[:20], long, bank + "\x00", rich} {
			coffer.Decode(b)
			coffer.Encode(bad())
			coffer.Encode(longModule(1501))
			if m, e, at := coffer.Decode(rich); !sameModule(m, richModule()) || e != api.OK || at != 0 {
				t.Errorf("P2: Decode = %v, %d, %d", m, e, at)
			}
			wantForm(t, rich[:20], 20)
			if s, e := coffer.Encode(richModule()); s != rich || e != api.OK {
				t.Errorf("P2: Encode = %v, %d", show(s), e)
			}
		}
	}
}
