// Package vigil: formulas over a log, told point by point: see DOC.md.
package vigil

import (
	"vigil/api"
	"vigil/logline"
	"vigil/points"
	"vigil/rules"
	"vigil/syntax"
	"vigil/token"
)

// Monitor is a formula with a log.
type Monitor struct {
	log   points.Log
	ended bool
}

// Check tells what is wrong with a formula, or what it is like (P3).
func Check(formula string) (api.Info, api.Errno, int) {
	if len(formula) > api.MaxText {
		return api.Info{}, api.ErrLong, 0
	}
	tokens, at, ok := token.Split(formula)
	if !ok {
		return api.Info{}, api.ErrToken, at
	}
	nodes, at, ok := syntax.Parse(tokens)
	if !ok {
		return api.Info{}, api.ErrSyntax, at
	}
	return rules.Check(nodes)
}

// New makes a monitor with an empty log (P4).
func New(formula string) (*Monitor, api.Errno, int) {
	_, e, at := Check(formula)
	if e != api.OK {
		return nil, e, at
	}
	return &Monitor{}, api.OK, 0
}

// Feed takes a line, and tells what is settled by it (P5, P6).
func (m *Monitor) Feed(line string) ([]api.Verdict, api.Errno, int) {
	if m.ended {
		return nil, api.ErrEnded, 0
	}
	if len(line) > api.MaxLine {
		return nil, api.ErrLong, 0
	}
	point, at, ok := logline.Read(line)
	if !ok {
		return nil, api.ErrSyntax, at
	}
	e := m.log.Add(point)
	return nil, e, 0
}

// End ends the log, and tells the rest (P7).
func (m *Monitor) End() ([]api.Verdict, api.Errno) {
	if m.ended {
		return nil, api.ErrEnded
	}
	m.ended = true
	return nil, api.OK
}

// Seen tells how many points there are, and of how many it was told whether the formula holds (P8).
func (m *Monitor) Seen() (int, int) {
	return m.log.Count(), 0
}
