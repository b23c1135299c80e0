package wire

import "coffer/api"

// isList tells whether there are at most so many numbers, each from 0 to high.
func isList(l []int, most, high int) bool {
	if len(l) > most {
		return false
	}
	for i := 0; i < len(l); i++ {
		if l[i] < 0 || l[i] > high {
			return false
		}
	}
	return true
}

func isCode(l []api.Instr, s bounds) bool {
	for i := 0; i < len(l); i++ {
		if l[i].Op < api.Ret || l[i].Op > api.Fail {
			return false
		}
		low, high := s.argRange(l[i].Op)
		if l[i].Arg < low || l[i].Arg > high {
			return false
		}
	}
	return true
}

// isFunction tells whether f is a function of a module that has so many kinds of things and functions.
func isFunction(f api.Func, kinds, funcs int) bool {
	if !isList(f.Params, api.MaxParams, kinds) {
		return false
	}
	if !isList(f.Results, api.MaxResults, kinds) {
		return false
	}
	if !isList(f.Locals, api.MaxLocals, kinds) {
		return false
	}
	if len(f.Code) < 1 || len(f.Code) > api.MaxCode {
		return false
	}
	s := bounds{kinds: kinds, funcs: funcs, places: len(f.Params) + len(f.Locals), code: len(f.Code)}
	return isCode(f.Code, s)
}

// isModule tells whether m is a module, however many bytes it has.
func isModule(m api.Module) bool {
	if !isList(m.Kinds, api.MaxKinds, mayAll) {
		return false
	}
	if len(m.Funcs) < 1 || len(m.Funcs) > api.MaxFuncs {
		return false
	}
	for i := 0; i < len(m.Funcs); i++ {
		if !isFunction(m.Funcs[i], len(m.Kinds), len(m.Funcs)) {
			return false
		}
	}
	return true
}

// writer gathers bytes. It is used only behind isModule, so every number that it gets fits a byte.
type writer struct {
	b []byte
}

func (w *writer) number(n int) {
	w.b = append(w.b, byte(n))
}

func (w *writer) list(l []int) {
	w.number(len(l))
	for i := 0; i < len(l); i++ {
		w.number(l[i])
	}
}

func (w *writer) function(f api.Func) {
	w.list(f.Params)
	w.list(f.Results)
	w.list(f.Locals)
	w.number(len(f.Code))
	for i := 0; i < len(f.Code); i++ {
		w.number(f.Code[i].Op)
		w.number(f.Code[i].Arg)
	}
}

func (w *writer) module(m api.Module) {
	w.number('C')
	w.number('F')
	w.list(m.Kinds)
	w.number(len(m.Funcs))
	for i := 0; i < len(m.Funcs); i++ {
		w.function(m.Funcs[i])
	}
}

// WriteModule gives a module's bytes. Their number is asked last: ErrForm goes ahead of ErrLong, and only a module's bytes are few enough to be written before they are counted.
func WriteModule(m api.Module) (string, api.Errno) {
	if !isModule(m) {
		return "", api.ErrForm
	}
	w := &writer{}
	w.module(m)
	if len(w.b) > api.MaxBytes {
		return "", api.ErrLong
	}
	return string(w.b), api.OK
}
