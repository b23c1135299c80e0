// Package wire reads and writes the bytes of modules, and reads those of scripts.
package wire

import "coffer/api"

// mayAll is the greatest number for what a kind may.
const mayAll = api.MayCopy + api.MayDrop

// bounds are what the arguments in a function's code are measured by: how many kinds of things and functions its module has, how many places and instructions it has itself.
type bounds struct {
	kinds, funcs, places, code int
}

// argRange tells the least and the greatest argument of an operation. Where no argument would do, the greatest is below the least.
func (s bounds) argRange(op int) (int, int) {
	switch op {
	case api.Push, api.Fail:
		return 0, 255
	case api.Jump, api.JumpIf:
		return 0, s.code - 1
	case api.Copy, api.Move, api.Keep:
		return 0, s.places - 1
	case api.Make, api.Open, api.Fetch, api.Store, api.Has:
		return 1, s.kinds
	case api.Call:
		return 0, s.funcs - 1
	}
	return 0, 0
}
