// Package flow tells, ahead of any run, whether code could go wrong.
package flow

import "coffer/api"

// number is the kind of numbers.
const number = 0

// maxPlaces is how many places a function may have.
const maxPlaces = api.MaxParams + api.MaxLocals

// state is what a function has when it comes to an instruction: the kinds of the values on its stack, as many as height says, and which places hold something. An instruction that has no state yet is not known. Once something has not gone well, bad stays set: so whoever takes and puts need ask for it only at the end.
type state struct {
	known, bad bool
	height     int
	stack      [api.MaxStack]int
	full       [maxPlaces]bool
}

func (s *state) put(kind int) {
	if s.height >= api.MaxStack {
		s.bad = true
		return
	}
	s.stack[s.height] = kind
	s.height++
}

// takeAny takes a value of whatever kind, and tells the kind.
func (s *state) takeAny() int {
	if s.height < 1 {
		s.bad = true
		return number
	}
	s.height--
	return s.stack[s.height]
}

// take takes a value that must be of that kind.
func (s *state) take(kind int) {
	got := s.takeAny()
	if got != kind {
		s.bad = true
	}
}

// holds tells whether just these kinds are on the stack.
func (s *state) holds(kinds []int) bool {
	if s.height != len(kinds) {
		return false
	}
	for i := 0; i < s.height; i++ {
		if s.stack[i] != kinds[i] {
			return false
		}
	}
	return true
}

// same leaves out what lies on the stacks above their height: it is left over from values that were taken.
func same(a, b state) bool {
	if a.height != b.height {
		return false
	}
	for i := 0; i < a.height; i++ {
		if a.stack[i] != b.stack[i] {
			return false
		}
	}
	for i := 0; i < maxPlaces; i++ {
		if a.full[i] != b.full[i] {
			return false
		}
	}
	return true
}
