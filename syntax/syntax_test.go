package syntax

import (
	"strings"
	"testing"

	"vigil/token"
)

func parse(t *testing.T, text string) ([]Node, int, bool) {
	t.Helper()
	tokens, _, ok := token.Split(text)
	if !ok {
		t.Fatalf("%q does not split", text)
	}
	return Parse(tokens)
}

func name(letters string) token.Word {
	var w token.Word
	copy(w[:], letters)
	return w
}

func TestNodes(t *testing.T) {
	text := "and(exists y(since[3,*](true,p(x,7))),soon[0,12](q(y)))"
	nodes, _, ok := parse(t, text)
	want := []Node{
		{Kind: token.And, At: 0, First: 1, Second: 5},
		{Kind: token.Exists, At: 4, Var: token.Y, First: 2, Second: NoPart},
		{Kind: token.Since, At: 13, Span: Span{At: 18, Low: 3, Open: true}, First: 3, Second: 4},
		{Kind: token.True, At: 24, First: NoPart, Second: NoPart},
		{Kind: token.Name, At: 29, Name: name("p"), Args: [2]Arg{{Kind: token.X}, {Kind: token.Num, Value: 7}}, ArgCount: 2, First: NoPart, Second: NoPart},
		{Kind: token.Soon, At: 38, Span: Span{At: 42, Low: 0, High: 12}, First: 6, Second: NoPart},
		{Kind: token.Name, At: 49, Name: name("q"), Args: [2]Arg{{Kind: token.Y}}, ArgCount: 1, First: NoPart, Second: NoPart},
	}
	if !ok || len(nodes) != len(want) {
		t.Fatalf("P3: nodes of %q: %+v, %v", text, nodes, ok)
	}
	for n := range want {
		if nodes[n] != want[n] {
			t.Errorf("P3: node %d of %q is %+v, want %+v", n, text, nodes[n], want[n])
		}
	}
}

func TestEachOperator(t *testing.T) {
	for _, text := range []string{
		"true", "p(x)", "p(0,y)", "and(true,true)", "but(true,true)", "or(true,true)", "exists x(true)", "exists y(true)",
		"prev[0,1](true)", "next[0,1](true)", "once[0,1](true)", "soon[0,1](true)",
		"since[0,1](true,true)", "unsince[0,1](true,true)", "until[0,1](true,true)", "ununtil[0,1](true,true)",
	} {
		if _, at, ok := parse(t, text); !ok {
			t.Errorf("P3: %q is refused at %d", text, at)
		}
		// Every part of it that ends early begins a FORMULA, so the fault is its end.
		tokens, _, _ := token.Split(text)
		for _, last := range tokens[:len(tokens)-1] {
			cut := text[:last.At]
			if _, at, ok := parse(t, cut); ok || at != len(cut) {
				t.Errorf("P3: %q: place %d, %v, want %d", cut, at, ok, len(cut))
			}
		}
		if _, at, ok := parse(t, text+" true"); ok || at != len(text)+1 {
			t.Errorf("P3: %q and more: place %d, %v", text, at, ok)
		}
	}
}

func TestDepth(t *testing.T) {
	for _, head := range []string{"prev[0,1](", "exists x(", "and(true,", "until[0,1](true,"} {
		right := strings.Repeat(head, 7) + "true" + strings.Repeat(")", 7)
		if _, at, ok := parse(t, right); !ok {
			t.Errorf("P3: %q is refused at %d", right, at)
		}
	}
	if _, at, ok := parse(t, strings.Repeat("prev[0,1](", 8)); ok || at != 80 {
		t.Errorf("P3: eight operators and nothing: place %d, %v, want 80", at, ok)
	}
	if _, at, ok := parse(t, strings.Repeat("prev[0,1](", 8)+" true"); ok || at != 81 {
		t.Errorf("P3: nine deep: place %d, %v, want 81", at, ok)
	}
	if _, at, ok := parse(t, strings.Repeat("prev[0,1](", 8)+strings.Repeat(")", 8)); ok || at != 80 {
		t.Errorf("P3: eight operators and nothing in them: place %d, %v, want 80", at, ok)
	}
	if _, at, ok := parse(t, strings.Repeat("and(", 8)+",true"); ok || at != 32 {
		t.Errorf("P3: eight operators and a comma: place %d, %v, want 32", at, ok)
	}
	// The eighth `and` may stand there; its first FORMULA may not.
	if _, at, ok := parse(t, strings.Repeat("and(", 8)+"true"); ok || at != 32 {
		t.Errorf("P3: nine deep at the left: place %d, %v, want 32", at, ok)
	}
}

func TestNoEnd(t *testing.T) {
	if nodes, at, ok := Parse(nil); ok || nodes != nil || at != 0 {
		t.Errorf("P1: no tokens: %+v, %d, %v", nodes, at, ok)
	}
}
