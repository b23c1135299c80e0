package run

import "coffer/api"

// maxPlaces is how many places a function may have.
const maxPlaces = api.MaxParams + api.MaxLocals

// frame is one call that is going on: its code, the number of the instruction that comes next, its stack, as high as height says, and its places. A thing stands here as what it is worth: which kind a value is of, and which places are empty, the check has told ahead of the run. So nothing is asked here but what keeps an index from going astray.
type frame struct {
	code   []api.Instr
	next   int
	height int
	stack  [api.MaxStack]int
	places [maxPlaces]int
}

func (c *frame) put(n int) {
	if c.height >= api.MaxStack {
		return
	}
	c.stack[c.height] = n
	c.height++
}

func (c *frame) take() int {
	if c.height < 1 {
		return 0
	}
	c.height--
	return c.stack[c.height]
}

// held tells what a place holds.
func (c *frame) held(place int) int {
	if place < 0 || place >= maxPlaces {
		return 0
	}
	return c.places[place]
}

func (c *frame) keep(place, n int) {
	if place < 0 || place >= maxPlaces {
		return
	}
	c.places[place] = n
}
