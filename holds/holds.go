// Package holds tells for which values of x and y a formula holds at the points of a log.
package holds

import (
	"vigil/api"
	"vigil/logline"
	"vigil/points"
	"vigil/syntax"
	"vigil/token"
)

// view is a node with all that its answers hang on: the log, and for the FORMULAs in it
// the set of pairs at each point.
//
// Sets hold every pair for which a node holds, whatever is free in it: so those of parts with
// different free variables go together as they are, and only the answer is narrowed.
type view struct {
	node   syntax.Node
	log    *points.Log
	first  []api.Rel
	second []api.Rel
}

// Answers tells the answer at each point of the log, with no points behind the last one.
// The nodes are as syntax.Parse tells them; info is that of the whole formula.
func Answers(nodes []syntax.Node, info api.Info, log *points.Log) []api.Rel {
	sets := make([][]api.Rel, len(nodes))
	// From the last node to the first, since a node stands ahead of those in it, on which its sets hang.
	for n := len(nodes) - 1; n >= 0; n-- {
		v := view{node: nodes[n], log: log}
		v.first = partAt(sets, nodes[n].First)
		v.second = partAt(sets, nodes[n].Second)
		own := v.everywhere()
		sets[n] = own
	}
	whole := partAt(sets, 0)
	var answers []api.Rel
	for i := 0; i < len(whole); i++ {
		answers = append(answers, narrow(whole[i], info))
	}
	return answers
}

func partAt(sets [][]api.Rel, n int) []api.Rel {
	if n < 0 || n >= len(sets) {
		return nil
	}
	return sets[n]
}

func (v view) everywhere() []api.Rel {
	var sets []api.Rel
	for i := 0; i < v.log.Count(); i++ {
		sets = append(sets, v.at(i))
	}
	return sets
}

func (v view) at(i int) api.Rel {
	first := setAt(v.first, i)
	second := setAt(v.second, i)
	switch v.node.Kind {
	case token.True:
		return allPairs()
	case token.Name:
		return happens(v.node, v.log.At(i).Happenings)
	case token.And:
		return both(first, second)
	case token.But:
		return without(first, second)
	case token.Or:
		return either(first, second)
	case token.Exists:
		return forSome(v.node.Var, first)
	case token.Prev, token.Next:
		return v.beside(i)
	}
	return v.found(i)
}

// setAt answers for a point that there is not that nothing holds there.
func setAt(sets []api.Rel, i int) api.Rel {
	if i < 0 || i >= len(sets) {
		return api.Rel{}
	}
	return sets[i]
}

// beside is for prev and next.
func (v view) beside(i int) api.Rel {
	j := i + direction(v.node.Kind)
	if !isIn(v.log.Time(i, j), v.node.Span) {
		return api.Rel{}
	}
	return setAt(v.first, j)
}

// found is for all that look for a point further off. It goes from i on to ever further points j;
// kept is for which values all points that were passed are as the formula wants them.
func (v view) found(i int) api.Rel {
	var found api.Rel
	kept := allPairs()
	step := direction(v.node.Kind)
	for j := i; j >= 0 && j < v.log.Count(); j += step {
		if isIn(v.log.Time(i, j), v.node.Span) {
			found = either(found, both(kept, v.goal(j)))
		}
		kept = both(kept, v.guard(j))
	}
	return found
}

// direction is never 0, so that who goes on by it comes to an end of the log.
func direction(kind token.Kind) int {
	switch kind {
	case token.Prev, token.Once, token.Since, token.Unsince:
		return -1
	}
	return 1
}

func isIn(time int, span syntax.Span) bool {
	return time >= span.Low && (span.Open || time <= span.High)
}

// goal tells for which values j is a point that was looked for, by what holds there.
func (v view) goal(j int) api.Rel {
	switch v.node.Kind {
	case token.Once, token.Soon:
		return setAt(v.first, j)
	}
	return setAt(v.second, j)
}

// guard tells for which values j may be passed on the way to a further point.
func (v view) guard(j int) api.Rel {
	first := setAt(v.first, j)
	switch v.node.Kind {
	case token.Since, token.Until:
		return first
	case token.Unsince, token.Ununtil:
		return without(allPairs(), first)
	}
	return allPairs()
}

// happens tells which values make the event one of the happenings.
func happens(event syntax.Node, happenings []logline.Happening) api.Rel {
	var found api.Rel
	for h := 0; h < len(happenings); h++ {
		if happenings[h].Name == event.Name && happenings[h].Count == event.ArgCount {
			found = either(found, valuesFor(event, happenings[h].Digits))
		}
	}
	return found
}

// valuesFor tells which values make the arguments of the event these digits, all of them at once:
// a variable that stands there twice must fit both.
func valuesFor(event syntax.Node, digits [2]int) api.Rel {
	fit := allPairs()
	for a := 0; a < event.ArgCount && a < len(digits); a++ {
		fit = both(fit, valuesForArg(event.Args[a], digits[a]))
	}
	return fit
}

func valuesForArg(arg syntax.Arg, digit int) api.Rel {
	if arg.Kind == token.X || arg.Kind == token.Y {
		return withValue(arg.Kind, digit)
	}
	if arg.Value == digit {
		return allPairs()
	}
	return api.Rel{}
}
