// Package vigil: formulas over a log, told point by point: see DOC.md.
package vigil

import (
	"vigil/api"
	"vigil/holds"
	"vigil/logline"
	"vigil/points"
	"vigil/rules"
	"vigil/syntax"
	"vigil/token"
)

// Monitor is a formula with a log; told is of how many points, the first ones, a verdict was told.
type Monitor struct {
	nodes []syntax.Node
	info  api.Info
	log   points.Log
	told  int
	ended bool
}

// Check tells what is wrong with a formula, or what it is like (P3).
func Check(formula string) (api.Info, api.Errno, int) {
	_, info, e, at := read(formula)
	return info, e, at
}

// read tells the nodes of a formula too.
func read(formula string) ([]syntax.Node, api.Info, api.Errno, int) {
	if len(formula) > api.MaxText {
		return nil, api.Info{}, api.ErrLong, 0
	}
	tokens, at, ok := token.Split(formula)
	if !ok {
		return nil, api.Info{}, api.ErrToken, at
	}
	nodes, at, ok := syntax.Parse(tokens)
	if !ok {
		return nil, api.Info{}, api.ErrSyntax, at
	}
	info, e, at := rules.Check(nodes)
	return nodes, info, e, at
}

// New makes a monitor with an empty log (P4).
func New(formula string) (*Monitor, api.Errno, int) {
	nodes, info, e, at := read(formula)
	if e != api.OK {
		return nil, e, at
	}
	return &Monitor{nodes: nodes, info: info}, api.OK, 0
}

// Feed takes a line, and tells what is settled by it (P5, P6).
func (m *Monitor) Feed(line string) ([]api.Verdict, api.Errno, int) {
	if m.ended {
		return nil, api.ErrEnded, 0
	}
	if len(line) > api.MaxLine {
		return nil, api.ErrLong, 0
	}
	point, at, ok := logline.Read(line)
	if !ok {
		return nil, api.ErrSyntax, at
	}
	e := m.log.Add(point)
	if e != api.OK {
		return nil, e, 0
	}
	settled := m.log.Settled(m.info.Reach)
	return m.tell(settled), api.OK, 0
}

// End ends the log, and tells the rest (P7).
func (m *Monitor) End() ([]api.Verdict, api.Errno) {
	if m.ended {
		return nil, api.ErrEnded
	}
	m.ended = true
	count := m.log.Count()
	return m.tell(count), api.OK
}

// tell tells a verdict of each of the first points, so many, of which none was told.
// It looks at the whole log again: what holds at a settled point is not changed by the points that are still to come.
func (m *Monitor) tell(count int) []api.Verdict {
	if count <= m.told {
		return nil
	}
	answers := holds.Answers(m.nodes, m.info, &m.log)
	var verdicts []api.Verdict
	for i := m.told; i < count && i < len(answers); i++ {
		stamp := m.log.At(i).Stamp
		verdicts = append(verdicts, api.Verdict{Point: i, Stamp: stamp, Holds: answers[i]})
	}
	m.told = count
	return verdicts
}

// Seen tells how many points there are, and of how many it was told whether the formula holds (P8).
func (m *Monitor) Seen() (int, int) {
	return m.log.Count(), m.told
}
