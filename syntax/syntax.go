// Package syntax reads the tokens of a formula into a list of nodes.
package syntax

import (
	"vigil/api"
	"vigil/token"
)

// NoPart stands where a node has no FORMULA in it.
const NoPart = -1

// Arg is an ARG: Kind is X, Y or Num; Value is that of a Num.
type Arg struct {
	Kind  token.Kind
	Value int
}

// Span is a SPAN: At is the place of its `[`; with Open there is no upper end, and High means nothing.
type Span struct {
	At   int
	Low  int
	High int
	Open bool
}

// Node is a FORMULA. Kind and At are those of its first token, so that an EVENT is of kind Name.
// First and Second tell where in the list the FORMULAs in it stand.
type Node struct {
	Kind     token.Kind
	At       int
	Name     token.Word // of an EVENT, as are Args and ArgCount
	Args     [2]Arg
	ArgCount int
	Var      token.Kind // of Exists
	Span     Span
	First    int
	Second   int
}

// parser stands ahead of tokens[next]. No choice of the grammar needs more than one token to be seen,
// so where reading fails, that token is the first with which no FORMULA begins.
type parser struct {
	tokens []token.Token
	next   int
	nodes  []Node
}

// Parse tells the nodes of a FORMULA that the tokens (with End behind them) are, in the order of the text,
// so that a node stands ahead of all that are in it; or the place of the token that can't stand there, and false.
func Parse(tokens []token.Token) ([]Node, int, bool) {
	p := parser{tokens: tokens}
	whole := p.formula(1)
	here := p.here()
	if !whole || here.Kind != token.End {
		return nil, here.At, false
	}
	return p.nodes, 0, true
}

// formula reads a FORMULA. Depth is how deep it stands; it is at most MaxDepth, so the recursion ends.
func (p *parser) formula(depth int) bool {
	if depth > api.MaxDepth {
		return false
	}
	node, ok := p.head()
	if !ok {
		return false
	}
	n := len(p.nodes)
	p.nodes = append(p.nodes, node)
	if node.Kind == token.True || node.Kind == token.Name {
		return true
	}
	return p.parts(n, depth+1)
}

// head reads what stands ahead of the FORMULAs in a FORMULA: all of it, if there are none.
func (p *parser) head() (Node, bool) {
	first := p.here()
	node := Node{Kind: first.Kind, At: first.At, Name: first.Word, First: NoPart, Second: NoPart}
	if !beginsFormula(first.Kind) {
		return node, false
	}
	p.next++
	ok := true
	switch {
	case first.Kind == token.Name:
		ok = p.args(&node)
	case first.Kind == token.Exists:
		ok = p.variable(&node)
	case hasSpan(first.Kind):
		ok = p.span(&node)
	}
	return node, ok
}

// parts reads the bracket with the FORMULAs that stand in node n.
func (p *parser) parts(n int, depth int) bool {
	if n < 0 || n >= len(p.nodes) {
		return false
	}
	if !p.take(token.OpenRound) {
		return false
	}
	p.nodes[n].First = len(p.nodes)
	if !p.formula(depth) {
		return false
	}
	if hasTwoParts(p.nodes[n].Kind) {
		if !p.take(token.Comma) {
			return false
		}
		p.nodes[n].Second = len(p.nodes)
		if !p.formula(depth) {
			return false
		}
	}
	return p.take(token.CloseRound)
}

// args reads the bracket of an EVENT.
func (p *parser) args(node *Node) bool {
	if !p.take(token.OpenRound) {
		return false
	}
	first, ok := p.arg()
	if !ok {
		return false
	}
	node.Args[0] = first
	node.ArgCount = 1
	if !p.take(token.Comma) {
		return p.take(token.CloseRound)
	}
	second, ok := p.arg()
	if !ok {
		return false
	}
	node.Args[1] = second
	node.ArgCount = 2
	return p.take(token.CloseRound)
}

func (p *parser) arg() (Arg, bool) {
	here := p.here()
	digit := here.Kind == token.Num && here.Size == 1
	if !digit && !isVar(here.Kind) {
		return Arg{}, false
	}
	p.next++
	return Arg{Kind: here.Kind, Value: here.Value}, true
}

func (p *parser) variable(node *Node) bool {
	here := p.here()
	if !isVar(here.Kind) {
		return false
	}
	p.next++
	node.Var = here.Kind
	return true
}

func (p *parser) span(node *Node) bool {
	node.Span.At = p.here().At
	if !p.take(token.OpenSquare) {
		return false
	}
	node.Span.Low = p.here().Value
	if !p.take(token.Num) {
		return false
	}
	if !p.take(token.Comma) {
		return false
	}
	if p.take(token.Star) {
		node.Span.Open = true
		return p.take(token.CloseSquare)
	}
	node.Span.High = p.here().Value
	if !p.take(token.Num) {
		return false
	}
	return p.take(token.CloseSquare)
}

// here tells the next token; the zero Token, which is an End, behind the last one.
func (p *parser) here() token.Token {
	if p.next < 0 || p.next >= len(p.tokens) {
		return token.Token{}
	}
	return p.tokens[p.next]
}

// take goes on by one token if it is of this kind.
func (p *parser) take(kind token.Kind) bool {
	if p.here().Kind != kind {
		return false
	}
	p.next++
	return true
}

func isVar(kind token.Kind) bool {
	return kind == token.X || kind == token.Y
}

func beginsFormula(kind token.Kind) bool {
	switch kind {
	case token.True, token.Name, token.Exists:
		return true
	}
	return hasTwoParts(kind) || hasSpan(kind)
}

func hasTwoParts(kind token.Kind) bool {
	switch kind {
	case token.And, token.But, token.Or, token.Since, token.Unsince, token.Until, token.Ununtil:
		return true
	}
	return false
}

func hasSpan(kind token.Kind) bool {
	switch kind {
	case token.Prev, token.Next, token.Once, token.Soon, token.Since, token.Unsince, token.Until, token.Ununtil:
		return true
	}
	return false
}
