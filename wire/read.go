package wire

import "coffer/api"

// reader goes through bytes from the first one on. Once a byte cannot stand, at stays at its place and every further number is read as 0: so whoever reads need ask for bad only at the end.
type reader struct {
	b   string
	at  int
	bad bool
}

// number reads a byte that must be from low to high.
func (r *reader) number(low, high int) int {
	if r.bad {
		return 0
	}
	if r.at >= len(r.b) {
		r.bad = true
		return 0
	}
	n := int(r.b[r.at])
	if n < low || n > high {
		r.bad = true
		return 0
	}
	r.at++
	return n
}

// list reads how many numbers there are, at most so many, and then the numbers, each from 0 to high.
func (r *reader) list(most, high int) []int {
	l := []int{}
	count := r.number(0, most)
	for i := 0; i < count; i++ {
		n := r.number(0, high)
		l = append(l, n)
	}
	return l
}

// code reads the instructions of a function, as many as the bounds say.
func (r *reader) code(s bounds) []api.Instr {
	l := []api.Instr{}
	for i := 0; i < s.code; i++ {
		op := r.number(api.Ret, api.Fail)
		low, high := s.argRange(op)
		arg := r.number(low, high)
		l = append(l, api.Instr{Op: op, Arg: arg})
	}
	return l
}

// function reads a function of a module that has so many kinds of things and functions.
func (r *reader) function(kinds, funcs int) api.Func {
	f := api.Func{}
	f.Params = r.list(api.MaxParams, kinds)
	f.Results = r.list(api.MaxResults, kinds)
	f.Locals = r.list(api.MaxLocals, kinds)
	s := bounds{kinds: kinds, funcs: funcs, places: len(f.Params) + len(f.Locals)}
	s.code = r.number(1, api.MaxCode)
	f.Code = r.code(s)
	return f
}

func (r *reader) module() api.Module {
	r.number('C', 'C')
	r.number('F', 'F')
	kinds := r.list(api.MaxKinds, mayAll)
	funcs := []api.Func{}
	count := r.number(1, api.MaxFuncs)
	for i := 0; i < count; i++ {
		f := r.function(len(kinds), count)
		funcs = append(funcs, f)
	}
	return api.Module{Kinds: kinds, Funcs: funcs}
}

// end refuses a byte behind the end.
func (r *reader) end() {
	if r.at < len(r.b) {
		r.bad = true
	}
}

// ReadModule reads bytes that must be just a module's; with ErrForm it tells the place of the first byte that cannot stand.
func ReadModule(b string) (api.Module, api.Errno, int) {
	if len(b) > api.MaxBytes {
		return api.Module{}, api.ErrLong, 0
	}
	r := &reader{b: b}
	m := r.module()
	r.end()
	if r.bad {
		return api.Module{}, api.ErrForm, r.at
	}
	return m, api.OK, 0
}
