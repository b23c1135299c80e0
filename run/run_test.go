package run_test

import (
	"math/rand"
	"testing"

	"coffer/api"
	"coffer/run"
)

func out(e api.Errno, used int) api.Outcome { return api.Outcome{Err: e, Used: used} }

// Code that was not checked may do anything; but the run ends, and nothing goes astray.
func TestScriptThatIsNotSound(t *testing.T) {
	m := api.Module{Kinds: []int{0}, Funcs: []api.Func{{Code: []api.Instr{{Op: api.Push, Arg: 1}}}}}
	for k, c := range []struct {
		code []api.Instr
		want api.Outcome
	}{
		{nil, out(api.ErrFlow, 1)},
		{[]api.Instr{{Op: api.Push}}, out(api.ErrFlow, 2)},
		{[]api.Instr{{Op: api.Jump, Arg: -1}}, out(api.ErrFlow, 2)},
		{[]api.Instr{{Op: api.Jump, Arg: 1}}, out(api.ErrFlow, 2)},
		{[]api.Instr{{Op: api.Call, Arg: -1}, {}}, out(api.ErrFlow, 1)},
		{[]api.Instr{{Op: api.Call, Arg: 1}, {}}, out(api.ErrFlow, 1)},
		{[]api.Instr{{Op: api.Call, Arg: 0}, {}}, out(api.ErrFlow, 3)},
		{[]api.Instr{{Op: api.Fetch, Arg: 0}, {}}, out(api.ErrArg, 1)},
		{[]api.Instr{{Op: api.Fetch, Arg: 7}, {}}, out(api.ErrArg, 1)},
		{[]api.Instr{{Op: api.Store, Arg: 0}, {}}, out(api.ErrArg, 1)},
		{[]api.Instr{{Op: api.Store, Arg: 7}, {}}, out(api.ErrArg, 1)},
		{[]api.Instr{{Op: api.Has, Arg: -1}, {}}, out(api.ErrArg, 1)},
		{[]api.Instr{{Op: api.Drop}, {Op: api.Add}, {Op: api.Copy, Arg: -1}, {Op: api.Copy, Arg: 8}, {Op: api.Keep, Arg: -1}, {Op: api.Keep, Arg: 8}, {}}, out(api.OK, 7)},
		{[]api.Instr{{Op: 19}, {Op: -1}, {}}, out(api.OK, 3)},
	} {
		if _, o := run.Script(m, api.Func{Code: c.code}, run.Accounts{}, 0, 100); o != c.want {
			t.Errorf("script %d = %v, want %v", k, o, c.want)
		}
	}
	endless := []api.Instr{{Op: api.Push, Arg: 1}, {Op: api.Jump, Arg: 0}}
	if _, o := run.Script(m, api.Func{Code: endless}, run.Accounts{}, 0, 100); o != out(api.ErrGas, 100) {
		t.Errorf("a stack that is full = %v", o)
	}
	for _, gas := range []int{0, -1, -1 << 63} {
		if _, o := run.Script(m, api.Func{Code: endless}, run.Accounts{}, 0, gas); o != out(api.ErrGas, 0) {
			t.Errorf("gas %d = %v", gas, o)
		}
	}
	for _, who := range []int{-1, 8, 1<<63 - 1} {
		if _, o := run.Script(m, api.Func{Code: []api.Instr{{Op: api.Fetch, Arg: 1}, {}}}, run.Accounts{}, who, 100); o != out(api.ErrArg, 1) {
			t.Errorf("for account %d = %v", who, o)
		}
	}
}

func someNumber(r *rand.Rand) int {
	if r.Intn(9) == 0 {
		return []int{-1 << 63, -1, 1<<63 - 1, 1000}[r.Intn(4)]
	}
	return r.Intn(9)
}

func someFunc(r *rand.Rand) api.Func {
	f := api.Func{}
	for n := r.Intn(12); n > 0; n-- {
		f.Params = append(f.Params, someNumber(r))
	}
	for n := r.Intn(12); n > 0; n-- {
		f.Code = append(f.Code, api.Instr{Op: r.Intn(20), Arg: someNumber(r)})
	}
	return f
}

// Whatever the code: no more is done than gas says, and with an error the accounts are as they were.
func TestScriptOfAnything(t *testing.T) {
	r := rand.New(rand.NewSource(1))
	held := run.Accounts{}
	for k := 0; k < 100000; k++ {
		m := api.Module{}
		for n := r.Intn(4); n > 0; n-- {
			m.Funcs = append(m.Funcs, someFunc(r))
		}
		f, who, gas := someFunc(r), someNumber(r), r.Intn(200)
		before := held
		after, o := run.Script(m, f, held, who, gas)
		if o.Used < 0 || o.Used > gas {
			t.Errorf("%d of %d instructions are done", o.Used, gas)
		}
		if held != before || o.Err != api.OK && after != before {
			t.Errorf("a run with error %d has changed the accounts", o.Err)
		}
		held = after
	}
}
