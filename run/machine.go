package run

import "coffer/api"

// machine is a run: frames are the calls that are going on in one another, the script's first, as many as depth says; held is what the accounts hold so far. Once over is set, the run has ended, with err.
type machine struct {
	m      api.Module
	who    int
	held   Accounts
	frames [api.MaxDepth]frame
	depth  int
	used   int
	over   bool
	err    api.Errno
	code   int
}

func (r *machine) giveUp(e api.Errno) {
	r.over = true
	r.err = e
}

// goOn does instructions until the run is over, or as many as gas says.
func (r *machine) goOn(gas int) {
	for !r.over && r.used < gas {
		r.used++
		r.step()
	}
	if !r.over {
		r.giveUp(api.ErrGas)
	}
}

// step does the next instruction of the innermost call. That there is one is sure in sound code; without one, the code was not sound.
func (r *machine) step() {
	if r.depth < 1 || r.depth > api.MaxDepth {
		r.giveUp(api.ErrFlow)
		return
	}
	c := &r.frames[r.depth-1]
	if c.next < 0 || c.next >= len(c.code) {
		r.giveUp(api.ErrFlow)
		return
	}
	x := c.code[c.next]
	c.next++
	switch x.Op {
	case api.Ret:
		r.end(c)
	case api.Call:
		r.begin(c, x.Arg)
	case api.Add, api.Sub, api.Less, api.Same:
		r.reckon(c, x.Op)
	case api.Fetch:
		r.fetch(c, x.Arg)
	case api.Store:
		r.store(c, x.Arg)
	case api.Has:
		r.has(c, x.Arg)
	case api.Fail:
		r.code = x.Arg
		r.giveUp(api.ErrFail)
	default:
		c.do(x)
	}
}

// begin begins a call; its last parameter is uppermost.
func (r *machine) begin(c *frame, callee int) {
	if r.depth >= api.MaxDepth {
		r.giveUp(api.ErrDeep)
		return
	}
	if callee < 0 || callee >= len(r.m.Funcs) {
		r.giveUp(api.ErrFlow)
		return
	}
	f := r.m.Funcs[callee]
	inner := &r.frames[r.depth]
	*inner = frame{code: f.Code}
	for i := len(f.Params) - 1; i >= 0; i-- {
		n := c.take()
		inner.keep(i, n)
	}
	r.depth++
}

// end ends a call: with the script's own, the run.
func (r *machine) end(c *frame) {
	r.depth--
	if r.depth < 1 {
		r.over = true
		return
	}
	outer := &r.frames[r.depth-1]
	for i := 0; i < c.height; i++ {
		outer.put(c.stack[i])
	}
}

// Script runs f, a sound script for the module m, for an account. It answers what the accounts hold then: with an error, what they held before.
func Script(m api.Module, f api.Func, held Accounts, who, gas int) (Accounts, api.Outcome) {
	r := &machine{m: m, who: who, held: held, depth: 1}
	r.frames[0] = frame{code: f.Code}
	r.goOn(gas)
	out := api.Outcome{Err: r.err, Code: r.code, Used: r.used}
	if r.err != api.OK {
		return held, out
	}
	return r.held, out
}
