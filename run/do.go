package run

import "coffer/api"

// do does an instruction that concerns its own call alone and has no error. For Make and Open nothing is to be done: a thing stands as what it is worth. Nor does Move empty the place: nothing asks for it until it is kept in anew.
func (c *frame) do(x api.Instr) {
	switch x.Op {
	case api.Push:
		c.put(x.Arg)
	case api.Jump:
		c.next = x.Arg
	case api.JumpIf:
		n := c.take()
		if n != 0 {
			c.next = x.Arg
		}
	case api.Copy, api.Move:
		n := c.held(x.Arg)
		c.put(n)
	case api.Keep:
		n := c.take()
		c.keep(x.Arg, n)
	case api.Drop:
		c.take()
	}
}

// truth is the number that stands for yes or no.
func truth(yes bool) int {
	if yes {
		return 1
	}
	return 0
}

func (r *machine) reckon(c *frame, op int) {
	upper := c.take()
	lower := c.take()
	n := 0
	switch op {
	case api.Add:
		n = lower + upper
	case api.Sub:
		n = lower - upper
	case api.Less:
		n = truth(lower < upper)
	case api.Same:
		n = truth(lower == upper)
	}
	if n < 0 || n > api.MaxNumber {
		r.giveUp(api.ErrOver)
		return
	}
	c.put(n)
}

func (r *machine) fetch(c *frame, kind int) {
	n, e := r.held.Amount(r.who, kind)
	if e != api.OK {
		r.giveUp(e)
		return
	}
	r.held.set(r.who, kind, slot{})
	c.put(n)
}

func (r *machine) store(c *frame, kind int) {
	who := c.take()
	worth := c.take()
	s, e := r.held.look(who, kind)
	if e != api.OK {
		r.giveUp(e)
		return
	}
	if s.held {
		r.giveUp(api.ErrThere)
		return
	}
	r.held.set(who, kind, slot{held: true, worth: worth})
}

func (r *machine) has(c *frame, kind int) {
	who := c.take()
	s, e := r.held.look(who, kind)
	if e != api.OK {
		r.giveUp(e)
		return
	}
	n := truth(s.held)
	c.put(n)
}
