// Package run carries out sound scripts over what accounts hold.
package run

import "coffer/api"

// slot is where an account holds its thing of a kind. One that holds nothing has no worth left over, so that nothing outlives its thing.
type slot struct {
	held  bool
	worth int
}

// Accounts is what every account holds; at first nothing. It has no pointer and no list in it, so an assignment copies it as a whole: a run works on a copy, which is laid aside if the run is given up.
type Accounts struct {
	slots [api.MaxWho][api.MaxKinds]slot
}

func isKind(kind int) bool { return kind >= 1 && kind <= api.MaxKinds }

func isAccount(who int) bool { return who >= 0 && who < api.MaxWho }

// look tells the slot of an account for a kind; ErrArg, if there is none.
func (a *Accounts) look(who, kind int) (slot, api.Errno) {
	if !isAccount(who) || !isKind(kind) {
		return slot{}, api.ErrArg
	}
	return a.slots[who][kind-1], api.OK
}

// set is used only behind look, which has told then that there is such a slot.
func (a *Accounts) set(who, kind int, s slot) {
	if !isAccount(who) || !isKind(kind) {
		return
	}
	a.slots[who][kind-1] = s
}

// Amount tells what a thing is worth that an account holds: ErrArg, if there is no such account, or if no module has such a kind; ErrNone, if it holds none.
func (a *Accounts) Amount(who, kind int) (int, api.Errno) {
	s, e := a.look(who, kind)
	if e != api.OK {
		return 0, e
	}
	if !s.held {
		return 0, api.ErrNone
	}
	return s.worth, api.OK
}
