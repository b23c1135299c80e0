package flow_test

import (
	"math/rand"
	"testing"

	"coffer/api"
	"coffer/flow"
)

// What is no function of a module is not sound, where it is reached: but nothing goes wrong with it.
func TestSoundOfWhatIsNoFunction(t *testing.T) {
	m := api.Module{Kinds: []int{0}, Funcs: []api.Func{{Code: []api.Instr{{Op: api.Ret}}}}}
	for k, f := range []api.Func{
		{},
		{Params: make([]int, 5), Locals: make([]int, 4), Code: []api.Instr{{Op: api.Ret}}},
		{Params: make([]int, 9), Code: []api.Instr{{Op: api.Ret}}},
		{Code: []api.Instr{{Op: api.Move, Arg: 0}, {Op: api.Fail}}},
		{Params: []int{0}, Code: []api.Instr{{Op: api.Copy, Arg: -1}, {Op: api.Fail}}},
		{Code: []api.Instr{{Op: api.Call, Arg: 1}, {Op: api.Fail}}},
		{Code: []api.Instr{{Op: api.Call, Arg: -1}, {Op: api.Fail}}},
		{Code: []api.Instr{{Op: api.Jump, Arg: -1}}},
		{Code: []api.Instr{{Op: api.Jump, Arg: 1}}},
	} {
		if flow.Sound(m, f) {
			t.Errorf("function %d is sound", k)
		}
	}
}

func someNumber(r *rand.Rand) int {
	if r.Intn(8) == 0 {
		return []int{-1 << 63, -1, 1<<63 - 1, 1000}[r.Intn(4)]
	}
	return r.Intn(9)
}

func someList(r *rand.Rand) []int {
	l := make([]int, r.Intn(6))
	for i := range l {
		l[i] = someNumber(r)
	}
	return l
}

// Every call ends and none panics, even at what is no module.
func TestSoundOfAnything(t *testing.T) {
	r := rand.New(rand.NewSource(1))
	for k := 0; k < 50000; k++ {
		m := api.Module{Kinds: someList(r)}
		for n := r.Intn(4); n > 0; n-- {
			f := api.Func{Params: someList(r), Results: someList(r), Locals: someList(r)}
			for c := r.Intn(12); c > 0; c-- {
				f.Code = append(f.Code, api.Instr{Op: r.Intn(20), Arg: someNumber(r)})
			}
			m.Funcs = append(m.Funcs, f)
		}
		flow.CheckModule(m)
	}
}
