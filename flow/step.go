package flow

import "coffer/api"

// may tells whether a kind may be copied (MayCopy) or dropped (MayDrop). Numbers may both.
func (w *walk) may(kind, what int) bool {
	if kind < 1 || kind > len(w.m.Kinds) {
		return true
	}
	return w.m.Kinds[kind-1]&what != 0
}

// step turns the state ahead of an instruction into the one behind it; it is bad then, if the instruction does not go well. Where the instruction leads is not asked here.
func (w *walk) step(s *state, x api.Instr) {
	switch x.Op {
	case api.Ret:
		w.ret(s)
	case api.Push:
		s.put(number)
	case api.Add, api.Sub, api.Less, api.Same:
		s.take(number)
		s.take(number)
		s.put(number)
	case api.JumpIf:
		s.take(number)
	case api.Copy, api.Move, api.Keep:
		w.usePlace(s, x)
	case api.Drop:
		kind := s.takeAny()
		if !w.may(kind, api.MayDrop) {
			s.bad = true
		}
	case api.Call:
		w.call(s, x.Arg)
	case api.Make, api.Open, api.Fetch, api.Store, api.Has:
		useKind(s, x)
	}
}

// ret asks that nothing is lost when the function ends.
func (w *walk) ret(s *state) {
	if !s.holds(w.f.Results) {
		s.bad = true
	}
	for i := 0; i < len(w.places); i++ {
		if !w.canLose(s, i) {
			s.bad = true
		}
	}
}

// canLose tells whether what a place holds, if anything, may be lost.
func (w *walk) canLose(s *state, place int) bool {
	return !s.full[place] || w.may(w.places[place], api.MayDrop)
}

func (w *walk) usePlace(s *state, x api.Instr) {
	place := x.Arg
	if place < 0 || place >= len(w.places) {
		s.bad = true
		return
	}
	kind := w.places[place]
	switch x.Op {
	case api.Copy:
		if !s.full[place] || !w.may(kind, api.MayCopy) {
			s.bad = true
		}
		s.put(kind)
	case api.Move:
		if !s.full[place] {
			s.bad = true
		}
		s.full[place] = false
		s.put(kind)
	case api.Keep:
		s.take(kind)
		if !w.canLose(s, place) {
			s.bad = true
		}
		s.full[place] = true
	}
}

// call takes the last parameter first: it is uppermost.
func (w *walk) call(s *state, callee int) {
	if callee < 0 || callee >= len(w.m.Funcs) {
		s.bad = true
		return
	}
	f := w.m.Funcs[callee]
	for i := len(f.Params) - 1; i >= 0; i-- {
		s.take(f.Params[i])
	}
	for i := 0; i < len(f.Results); i++ {
		s.put(f.Results[i])
	}
}

func useKind(s *state, x api.Instr) {
	switch x.Op {
	case api.Make:
		s.take(number)
		s.put(x.Arg)
	case api.Open:
		s.take(x.Arg)
		s.put(number)
	case api.Fetch:
		s.put(x.Arg)
	case api.Store:
		s.take(number)
		s.take(x.Arg)
	case api.Has:
		s.take(number)
		s.put(number)
	}
}
