package coffer_test

import (
	"math/rand"

	"coffer/api"
)

// by: numbers as bytes.
func by(l ...int) string {
	b := make([]byte, len(l))
	for i, v := range l {
		b[i] = byte(v)
	}
	return string(b)
}

// show: bytes for a message, which is not to be longer than need be.
func show(b string) []byte { return []byte(b[:min(len(b), 60)]) }

var bank = by(67, 70, 1, 0, 4) +
	by(1, 0, 1, 1, 0, 3, 9, 0, 12, 1, 0, 0) +
	by(2, 1, 0, 0, 0, 4, 9, 0, 9, 1, 16, 1, 0, 0) +
	by(0, 1, 1, 0, 2, 15, 1, 0, 0) +
	by(1, 1, 1, 0, 0, 3, 9, 0, 13, 1, 0, 0)

// rich has more than one element in every list.
var rich = by(67, 70, 3, 0, 3, 1, 2) +
	by(2, 1, 0, 3, 3, 2, 1, 2, 2, 0, 4, 1, 200, 6, 1, 14, 1, 10, 3) +
	by(2, 0, 2, 2, 1, 1, 2, 3, 3, 2, 17, 3, 0, 0)

func richModule() api.Module {
	return api.Module{
		Kinds: []int{0, 3, 1},
		Funcs: []api.Func{
			{Params: []int{1, 0}, Results: []int{3, 2, 1}, Locals: []int{2, 0}, Code: []api.Instr{{Op: api.Push, Arg: 200}, {Op: api.Jump, Arg: 1}, {Op: api.Call, Arg: 1}, {Op: api.Keep, Arg: 3}}},
			{Params: []int{0, 2}, Results: []int{1, 1}, Locals: []int{3, 3}, Code: []api.Instr{{Op: api.Has, Arg: 3}, {Op: api.Ret, Arg: 0}}},
		},
	}
}

// longModule: a module of 8 functions that has so many bytes, from 52 to some 1600; a kind makes up for an odd one.
func longModule(bytes int) api.Module {
	m := api.Module{}
	left := bytes - 4 - 8*4
	if left%2 == 1 {
		m.Kinds = []int{api.MayCopy}
		left--
	}
	for i := 0; i < 8; i++ {
		n := min(api.MaxCode, left/2-(7-i))
		left -= 2 * n
		m.Funcs = append(m.Funcs, api.Func{Code: make([]api.Instr, n)})
	}
	return m
}

// sameList takes no list and a list without elements for the same.
func sameList[T comparable](a, b []T) bool {
	if len(a) != len(b) {
		return false
	}
	for i := range a {
		if a[i] != b[i] {
			return false
		}
	}
	return true
}

func sameFunc(f, g api.Func) bool {
	return sameList(f.Params, g.Params) && sameList(f.Results, g.Results) && sameList(f.Locals, g.Locals) && sameList(f.Code, g.Code)
}

func sameModule(a, b api.Module) bool {
	if !sameList(a.Kinds, b.Kinds) || len(a.Funcs) != len(b.Funcs) {
		return false
	}
	for i := range a.Funcs {
		if !sameFunc(a.Funcs[i], b.Funcs[i]) {
			return false
		}
	}
	return true
}

// slot: one byte of a module; what may stand in its place, by the bytes ahead of it; whether it is an operation, or fixed by the form alone (C, F and the counts), so that no number of the module stands for it.
type slot struct {
	value, low, high int
	fixed, op        bool
}

func bytesOf(l []slot) string {
	b := make([]byte, len(l))
	for i, s := range l {
		b[i] = byte(s.value)
	}
	return string(b)
}

// env: what arguments are measured by.
type env struct{ kinds, funcs, places, code int }

// argsOf: the least and the greatest argument of each operation, as the table of the document has them.
func argsOf(op int, e env) (int, int) {
	return [19]int{12: 1, 13: 1, 15: 1, 16: 1, 17: 1}[op],
		[19]int{1: 255, 6: e.code - 1, 7: e.code - 1, 8: e.places - 1, 9: e.places - 1, 10: e.places - 1, 12: e.kinds, 13: e.kinds, 14: e.funcs - 1, 15: e.kinds, 16: e.kinds, 17: e.kinds, 18: 255}[op]
}

func pick(r *rand.Rand, low, high int) int { return low + r.Intn(high-low+1) }

// someList: slots of a count and of that many numbers.
func someList(r *rand.Rand, most, high int) []slot {
	n := pick(r, 0, most)
	l := []slot{{value: n, high: most, fixed: true}}
	for i := 0; i < n; i++ {
		l = append(l, slot{value: pick(r, 0, high), high: high})
	}
	return l
}

func someFunc(r *rand.Rand, kinds, funcs, most int) []slot {
	params := someList(r, api.MaxParams, kinds)
	results := someList(r, api.MaxResults, kinds)
	locals := someList(r, api.MaxLocals, kinds)
	n := pick(r, 1, most)
	e := env{kinds, funcs, len(params) + len(locals) - 2, n}
	l := append(append(params, results...), locals...)
	l = append(l, slot{value: n, low: 1, high: api.MaxCode, fixed: true})
	for n > 0 {
		op := pick(r, 0, 18)
		low, high := argsOf(op, e)
		if high < low {
			continue
		}
		l = append(l, slot{value: op, high: 18, op: true}, slot{value: pick(r, low, high), low: low, high: high})
		n--
	}
	return l
}

// someModule: the slots of a module whose functions have at most so many instructions each.
func someModule(r *rand.Rand, most int) []slot {
	l := []slot{{value: 'C', low: 'C', high: 'C', fixed: true}, {value: 'F', low: 'F', high: 'F', fixed: true}}
	l = append(l, someList(r, api.MaxKinds, 3)...)
	kinds := l[2].value
	funcs := pick(r, 1, api.MaxFuncs)
	l = append(l, slot{value: funcs, low: 1, high: api.MaxFuncs, fixed: true})
	for i := 0; i < funcs; i++ {
		l = append(l, someFunc(r, kinds, funcs, most)...)
	}
	return l
}

// numbersOf: the numbers of a module that are no counts, in the order of its bytes.
func numbersOf(m api.Module) []*int {
	l := []*int{}
	add := func(x []int) {
		for i := range x {
			l = append(l, &x[i])
		}
	}
	add(m.Kinds)
	for _, f := range m.Funcs {
		add(f.Params)
		add(f.Results)
		add(f.Locals)
		for i := range f.Code {
			l = append(l, &f.Code[i].Op, &f.Code[i].Arg)
		}
	}
	return l
}
