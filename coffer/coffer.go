// Package coffer: small programs that handle things of value: see DOC.md.
package coffer

import (
	"coffer/api"
	"coffer/flow"
	"coffer/wire"
)

// Ledger has a module and what the accounts hold.
type Ledger struct{}

// Decode reads a module (P3).
func Decode(b string) (api.Module, api.Errno, int) { return wire.ReadModule(b) }

// Encode writes a module (P4).
func Encode(m api.Module) (string, api.Errno) { return wire.WriteModule(m) }

// Check tells whether a module's code can go wrong (P5).
func Check(b string) (api.Errno, int) {
	m, e, at := wire.ReadModule(b)
	if e != api.OK {
		return e, at
	}
	return flow.CheckModule(m)
}

// New makes a ledger with a module (P6).
func New(b string) (*Ledger, api.Errno) { return nil, api.OK }

// Run runs a script for an account (P7).
func (l *Ledger) Run(script string, who int, gas int) api.Outcome { return api.Outcome{} }

// Amount tells how much a thing is worth that an account holds (P8).
func (l *Ledger) Amount(who int, kind int) (int, api.Errno) { return 0, api.OK }
