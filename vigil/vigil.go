// Package vigil: formulas over a log, told point by point: see DOC.md.
package vigil

import (
	"vigil/api"
	"vigil/rules"
	"vigil/syntax"
	"vigil/token"
)

// Monitor is a formula with a log.
type Monitor struct{}

// Check tells what is wrong with a formula, or what it is like (P3).
func Check(formula string) (api.Info, api.Errno, int) {
	if len(formula) > api.MaxText {
		return api.Info{}, api.ErrLong, 0
	}
	tokens, at, ok := token.Split(formula)
	if !ok {
		return api.Info{}, api.ErrToken, at
	}
	nodes, at, ok := syntax.Parse(tokens)
	if !ok {
		return api.Info{}, api.ErrSyntax, at
	}
	return rules.Check(nodes)
}

// New makes a monitor with an empty log (P4).
func New(formula string) (*Monitor, api.Errno, int) { return nil, api.OK, 0 }

// Feed takes a line, and tells what is settled by it (P5, P6).
func (m *Monitor) Feed(line string) ([]api.Verdict, api.Errno, int) { return nil, api.OK, 0 }

// End ends the log, and tells the rest (P7).
func (m *Monitor) End() ([]api.Verdict, api.Errno) { return nil, api.OK }

// Seen tells how many points there are, and of how many it was told whether the formula holds (P8).
func (m *Monitor) Seen() (int, int) { return 0, 0 }
