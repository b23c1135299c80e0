package flow

import "coffer/api"

// walk goes through a function's code on all ways that it could take. states has one state for each instruction; todo are the instructions that have one, in the order in which they were reached: each stands there once, so the walk ends.
type walk struct {
	m      api.Module
	f      api.Func
	places []int
	states []state
	todo   []int
	bad    bool
}

// begin is the state in which a function begins: it has been handed its parameters, and nothing else is there.
func (w *walk) begin() state {
	s := state{known: true}
	for i := 0; i < len(w.f.Params); i++ {
		s.full[i] = true
	}
	return s
}

// lead notes that an instruction is reached in that state. That it is no instruction at all is found here too.
func (w *walk) lead(to int, s state) {
	if to < 0 || to >= len(w.states) {
		w.bad = true
		return
	}
	if !w.states[to].known {
		w.states[to] = s
		w.todo = append(w.todo, to)
		return
	}
	if !same(w.states[to], s) {
		w.bad = true
	}
}

// follow does an instruction in its state, and goes to where it leads.
func (w *walk) follow(at int) {
	s := w.states[at]
	x := w.f.Code[at]
	w.step(&s, x)
	if s.bad {
		w.bad = true
		return
	}
	if x.Op == api.Jump || x.Op == api.JumpIf {
		w.lead(x.Arg, s)
	}
	if x.Op != api.Ret && x.Op != api.Jump && x.Op != api.Fail {
		w.lead(at+1, s)
	}
}

// placesOf gives the kinds of a function's places.
func placesOf(f api.Func) []int {
	l := []int{}
	for i := 0; i < len(f.Params); i++ {
		l = append(l, f.Params[i])
	}
	for i := 0; i < len(f.Locals); i++ {
		l = append(l, f.Locals[i])
	}
	return l
}

// Sound tells whether f, a function of the module m or a script for it, is sound. Arguments and places are measured here once more, so that it does not hang on who has read them that no index goes astray.
func Sound(m api.Module, f api.Func) bool {
	places := placesOf(f)
	if len(places) > maxPlaces {
		return false
	}
	w := &walk{m: m, f: f, places: places}
	w.states = make([]state, len(f.Code))
	first := w.begin()
	w.lead(0, first)
	for i := 0; i < len(w.todo) && !w.bad; i++ {
		at := w.todo[i]
		w.follow(at)
	}
	return !w.bad
}

// CheckModule answers ErrFlow and the number of the first function of a module that is not sound.
func CheckModule(m api.Module) (api.Errno, int) {
	for i := 0; i < len(m.Funcs); i++ {
		if !Sound(m, m.Funcs[i]) {
			return api.ErrFlow, i
		}
	}
	return api.OK, 0
}
