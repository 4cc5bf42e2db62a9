// Package rules tells what is wrong with a formula that is well built, or what it is like.
package rules

import (
	"vigil/api"
	"vigil/syntax"
	"vigil/token"
)

// Check tells the first fault of a formula, or which variables are free in it, and its reach.
// The nodes are as syntax.Parse tells them: in the order of the text, the whole formula first.
func Check(nodes []syntax.Node) (api.Info, api.Errno, int) {
	for n := 0; n < len(nodes); n++ {
		if isBackward(nodes[n].Span) {
			return api.Info{}, api.ErrRange, nodes[n].Span.At
		}
	}
	for n := 0; n < len(nodes); n++ {
		if nodes[n].Span.Open && looksAhead(nodes[n].Kind) {
			return api.Info{}, api.ErrOpen, nodes[n].Span.At
		}
	}
	infos := infosOf(nodes)
	for n := 0; n < len(nodes); n++ {
		if isFreeWrongly(nodes[n], infos) {
			return api.Info{}, api.ErrFree, nodes[n].At
		}
	}
	return infoAt(infos, 0), api.OK, 0
}

func isBackward(span syntax.Span) bool {
	return !span.Open && span.Low > span.High
}

func looksAhead(kind token.Kind) bool {
	switch kind {
	case token.Next, token.Soon, token.Until, token.Ununtil:
		return true
	}
	return false
}

// infosOf tells what each node is like. It goes from the last one to the first,
// since a node stands ahead of those in it, on which its answer hangs.
func infosOf(nodes []syntax.Node) []api.Info {
	infos := make([]api.Info, len(nodes))
	for n := len(nodes) - 1; n >= 0; n-- {
		info := infoOf(nodes[n], infos)
		infos[n] = info
	}
	return infos
}

func infoOf(node syntax.Node, infos []api.Info) api.Info {
	first := infoAt(infos, node.First)
	second := infoAt(infos, node.Second)
	info := api.Info{X: first.X || second.X, Y: first.Y || second.Y, Reach: first.Reach}
	if second.Reach > info.Reach {
		info.Reach = second.Reach
	}
	if looksAhead(node.Kind) {
		info.Reach = reachAhead(node.Span.High, info.Reach)
	}
	switch node.Kind {
	case token.Name:
		info.X = hasArg(node, token.X)
		info.Y = hasArg(node, token.Y)
	case token.Exists:
		info.X = info.X && node.Var != token.X
		info.Y = info.Y && node.Var != token.Y
	}
	return info
}

// infoAt answers for no part what does not count in a whole: nothing is free in it, and it does not look ahead.
func infoAt(infos []api.Info, n int) api.Info {
	if n < 0 || n >= len(infos) {
		return api.Info{Reach: api.None}
	}
	return infos[n]
}

func reachAhead(own int, inner int) int {
	if inner == api.None {
		return own
	}
	return own + inner
}

func hasArg(node syntax.Node, kind token.Kind) bool {
	for i := 0; i < node.ArgCount && i < len(node.Args); i++ {
		if node.Args[i].Kind == kind {
			return true
		}
	}
	return false
}

// isFreeWrongly looks at this node alone, not at those in it.
func isFreeWrongly(node syntax.Node, infos []api.Info) bool {
	first := infoAt(infos, node.First)
	second := infoAt(infos, node.Second)
	switch node.Kind {
	case token.Or:
		return first.X != second.X || first.Y != second.Y
	case token.But:
		return !isCovered(second, first)
	case token.Since, token.Unsince, token.Until, token.Ununtil:
		return !isCovered(first, second)
	case token.Exists:
		isX := node.Var == token.X && first.X
		isY := node.Var == token.Y && first.Y
		return !isX && !isY
	}
	return false
}

// isCovered: is each variable that is free in the one free in the other too?
func isCovered(one api.Info, other api.Info) bool {
	return (other.X || !one.X) && (other.Y || !one.Y)
}
