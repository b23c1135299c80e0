// Package coffer: small programs that handle things of value: see DOC.md.
package coffer

import (
	"coffer/api"
	"coffer/flow"
	"coffer/run"
	"coffer/wire"
)

// Ledger has a module and what the accounts hold.
type Ledger struct {
	m    api.Module
	held run.Accounts
}

// Decode reads a module (P3).
func Decode(b string) (api.Module, api.Errno, int) { return wire.ReadModule(b) }

// Encode writes a module (P4).
func Encode(m api.Module) (string, api.Errno) { return wire.WriteModule(m) }

// Check tells whether a module's code can go wrong (P5).
func Check(b string) (api.Errno, int) {
	m, e, at := wire.ReadModule(b)
	if e != api.OK {
		return e, at
	}
	return flow.CheckModule(m)
}

// New makes a ledger with a module (P6).
func New(b string) (*Ledger, api.Errno) {
	m, e, _ := wire.ReadModule(b)
	if e != api.OK {
		return nil, e
	}
	e, _ = flow.CheckModule(m)
	if e != api.OK {
		return nil, e
	}
	return &Ledger{m: m}, api.OK
}

// Run runs a script for an account (P7).
func (l *Ledger) Run(script string, who int, gas int) api.Outcome {
	if who < 0 || who >= api.MaxWho || gas < 0 || gas > api.MaxGas {
		return api.Outcome{Err: api.ErrArg}
	}
	f, e := wire.ReadScript(script, len(l.m.Kinds), len(l.m.Funcs))
	if e != api.OK {
		return api.Outcome{Err: e}
	}
	if !flow.Sound(l.m, f) {
		return api.Outcome{Err: api.ErrFlow}
	}
	held, out := run.Script(l.m, f, l.held, who, gas)
	l.held = held
	return out
}

// Amount tells how much a thing is worth that an account holds (P8).
func (l *Ledger) Amount(who int, kind int) (int, api.Errno) {
	if kind < 1 || kind > len(l.m.Kinds) {
		return 0, api.ErrArg
	}
	return l.held.Amount(who, kind)
}
