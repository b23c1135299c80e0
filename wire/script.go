package wire

import "coffer/api"

// isOwn tells whether an operation is for a module's own functions alone.
func isOwn(op int) bool {
	switch op {
	case api.Make, api.Open, api.Fetch, api.Store:
		return true
	}
	return false
}

// isScript tells whether a function may be a script; code that is never reached counts too.
func isScript(f api.Func) bool {
	if len(f.Params) > 0 || len(f.Results) > 0 {
		return false
	}
	for i := 0; i < len(f.Code); i++ {
		if isOwn(f.Code[i].Op) {
			return false
		}
	}
	return true
}

// ReadScript reads bytes that must be just a script's, for a module that has so many kinds of things and functions.
func ReadScript(b string, kinds, funcs int) (api.Func, api.Errno) {
	if len(b) > api.MaxBytes {
		return api.Func{}, api.ErrLong
	}
	r := &reader{b: b}
	f := r.function(kinds, funcs)
	r.end()
	if r.bad || !isScript(f) {
		return api.Func{}, api.ErrForm
	}
	return f, api.OK
}
