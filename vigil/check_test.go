package vigil

import (
	"strings"
	"testing"

	"vigil/api"
)

func wrong(t *testing.T, formula string, e api.Errno, at int) {
	t.Helper()
	if i, gotE, gotAt := Check(formula); i != (api.Info{}) || gotE != e || gotAt != at {
		t.Errorf("P3: Check(%.80q) = %+v, %d, %d, want %d, %d", formula, i, gotE, gotAt, e, at)
	}
}

func right(t *testing.T, formula string, x bool, y bool, reach int) {
	t.Helper()
	want := api.Info{X: x, Y: y, Reach: reach}
	if i, e, at := Check(formula); i != want || e != api.OK || at != 0 {
		t.Errorf("P3: Check(%.80q) = %+v, %d, %d, want %+v", formula, i, e, at, want)
	}
}

func TestExamples(t *testing.T) {
	right(t, "p(x)", true, false, -1)
	right(t, "soon[0,5](and(p(x),next[1,2](q(x,y))))", true, true, 7)
	right(t, "exists y(once[3,*](q(1,y)))", false, false, -1)
	wrong(t, "", api.ErrSyntax, 0)
	wrong(t, "p(10)", api.ErrSyntax, 2)
	wrong(t, "p(x", api.ErrSyntax, 3)
	wrong(t, "once[5,3](p(1))", api.ErrRange, 4)
	wrong(t, "soon[0,*](p(1))", api.ErrOpen, 4)
	wrong(t, "or(p(x),q(y))", api.ErrFree, 0)
	wrong(t, "and(p(x),but(p(y),p(x)))", api.ErrFree, 9)
	wrong(t, "p(1000)", api.ErrToken, 2)
	wrong(t, "p(x)!", api.ErrToken, 4)
}

// Each bound, and one beyond it.
func TestBounds(t *testing.T) {
	right(t, strings.Repeat("\n", 236)+"p(x)", true, false, -1)
	wrong(t, strings.Repeat("\n", 237)+"p(x)", api.ErrLong, 0)
	right(t, "abcdefgh(y)", false, true, -1)
	wrong(t, " abcdefghi(y)", api.ErrToken, 1)
	right(t, "next[999,999](true)", false, false, 999)
	wrong(t, "next[999,1000](true)", api.ErrToken, 9)
	wrong(t, "next[0999,999](true)", api.ErrToken, 5)
	right(t, "p(9)", false, false, -1)
	wrong(t, "p(10)", api.ErrSyntax, 2)
	wrong(t, "p(09)", api.ErrSyntax, 2)
	wrong(t, "p(1,00)", api.ErrSyntax, 4)
	right(t, strings.Repeat("next[0,999](", 7)+"true"+strings.Repeat(")", 7), false, false, 6993)
	wrong(t, strings.Repeat("next[0,999](", 8)+"true"+strings.Repeat(")", 8), api.ErrSyntax, 96)
	right(t, "and(true,"+strings.Repeat("prev[0,1](", 6)+"true"+strings.Repeat(")", 7), false, false, -1)
	wrong(t, "and("+strings.Repeat("prev[0,1](", 7)+"true"+strings.Repeat(")", 7)+",true)", api.ErrSyntax, 74)
}

func TestBlanks(t *testing.T) {
	right(t, "\n soon \n[ 0\n, 5 ] ( p ( x\n,y ) )\n", true, true, 5)
	wrong(t, "p(1 0)", api.ErrSyntax, 4)
	wrong(t, "ex ists x(p(x))", api.ErrSyntax, 3)
	wrong(t, " p(x \n", api.ErrSyntax, 6)
	wrong(t, "p(x) \n )", api.ErrSyntax, 7)
	wrong(t, " once [5,3](p(1))", api.ErrRange, 6)
	wrong(t, "\nsoon\n[0,*](p(1))", api.ErrOpen, 6)
	wrong(t, "\n or(p(x),true)", api.ErrFree, 2)
}

func TestEqualEnds(t *testing.T) {
	right(t, "once[3,003](true)", false, false, -1)
	right(t, "until[010,10](true,true)", false, false, 10)
	wrong(t, "once[10,9](true)", api.ErrRange, 4)
	wrong(t, "until[010,9](true,true)", api.ErrRange, 5)
	right(t, "once[999,*](true)", false, false, -1)
}

// Both past and future have ErrRange; only the future has ErrOpen.
func TestSpans(t *testing.T) {
	for _, word := range []string{"prev", "once", "since", "unsince", "next", "soon", "until", "ununtil"} {
		rest := "(true)"
		if strings.Contains(word, "since") || strings.Contains(word, "until") {
			rest = "(true,true)"
		}
		future := word == "next" || word == "soon" || strings.Contains(word, "until")
		wrong(t, word+"[1,0]"+rest, api.ErrRange, len(word))
		if future {
			wrong(t, word+"[0,*]"+rest, api.ErrOpen, len(word))
			right(t, word+"[0,0]"+rest, false, false, 0)
		} else {
			right(t, word+"[0,*]"+rest, false, false, -1)
			right(t, word+"[0,0]"+rest, false, false, -1)
		}
	}
}

// The error that is named first wins, wherever it stands.
func TestWhichFirst(t *testing.T) {
	pad := strings.Repeat(" ", 240)
	wrong(t, "!"+pad, api.ErrLong, 0)
	wrong(t, ")"+pad, api.ErrLong, 0)
	wrong(t, ") !", api.ErrToken, 2)
	wrong(t, "next[1,0](true) !", api.ErrToken, 16)
	wrong(t, "once[1,0](soon[0,*](or(p(x),true))", api.ErrSyntax, 34)
	wrong(t, "once[1,0](true) true", api.ErrSyntax, 16)
	wrong(t, "and(or(p(x),true),and(soon[0,*](true),once[1,0](true)))", api.ErrRange, 42)
	wrong(t, "and(or(p(x),true),soon[0,*](true))", api.ErrOpen, 22)
	wrong(t, "and(soon[1,*](true),prev[2,1](true))", api.ErrRange, 24)
}

// Of several faults of one kind, the first in the text counts.
func TestFirstPlace(t *testing.T) {
	wrong(t, "!?", api.ErrToken, 0)
	wrong(t, "1000 ?", api.ErrToken, 0)
	wrong(t, "p(x) ) )", api.ErrSyntax, 5)
	wrong(t, "and(once[2,1](true),once[4,3](true))", api.ErrRange, 8)
	wrong(t, "until[2,1](true,once[4,3](true))", api.ErrRange, 5)
	wrong(t, "and(next[0,*](true),next[0,*](true))", api.ErrOpen, 8)
	wrong(t, "and(once[0,*](true),soon[0,*](true))", api.ErrOpen, 24)
	wrong(t, "but(exists x(true),or(p(x),true))", api.ErrFree, 0)
	wrong(t, "and(exists x(true),or(p(x),true))", api.ErrFree, 4)
	wrong(t, "and(true,and(or(p(x),true),exists x(true)))", api.ErrFree, 13)
}

func TestExists(t *testing.T) {
	right(t, "exists x(p(x))", false, false, -1)
	right(t, "exists y(p(x,y))", true, false, -1)
	right(t, "exists x(p(x,y))", false, true, -1)
	right(t, "exists x(exists y(p(x,y)))", false, false, -1)
	right(t, "and(exists x(p(x)),q(x))", true, false, -1)
	right(t, "exists x(and(exists x(p(x)),q(x)))", false, false, -1)
	wrong(t, "exists x(exists x(p(x,y)))", api.ErrFree, 0)
	wrong(t, "exists y(p(x))", api.ErrFree, 0)
	wrong(t, "exists x(true)", api.ErrFree, 0)
	wrong(t, "exists x(exists y(p(x)))", api.ErrFree, 9)
}

// Every byte, at every place of a formula, ends in an answer with a place in the text.
func TestAnyByte(t *testing.T) {
	formula := "and(soon[0,5](p(x)),exists y(since[1,*](true,q(x,y))))"
	for at := 0; at <= len(formula); at++ {
		for b := 0; b < 256; b++ {
			one := string([]byte{byte(b)})
			sound(t, formula[:at]+one+formula[at:])
			if at < len(formula) {
				sound(t, formula[:at]+one+formula[at+1:])
			}
		}
		sound(t, formula[:at])
		sound(t, formula[at:])
	}
}

func sound(t *testing.T, text string) {
	t.Helper()
	i, e, at := Check(text)
	if e != api.OK && i != (api.Info{}) {
		t.Errorf("P1: Check(%q) = %+v with error %d", text, i, e)
	}
	wantI, wantE, wantAt := readSlowly(text)
	if i != wantI || e != wantE || at != wantAt {
		t.Errorf("P3: Check(%q) = %+v, %d, %d, want %+v, %d, %d", text, i, e, at, wantI, wantE, wantAt)
	}
}

func TestHugeTexts(t *testing.T) {
	for _, part := range []string{"x", "(", "0", "and(", "prev[0,1](", "\xff", "\x00", " "} {
		wrong(t, strings.Repeat(part, 1<<20), api.ErrLong, 0)
		sound(t, strings.Repeat(part, 240/len(part)))
	}
}

// What Check answers hangs on its formula alone.
func TestCheckTwice(t *testing.T) {
	for range 2 {
		right(t, "next[1,2](p(x))", true, false, 2)
		wrong(t, "next[1,2](p(x)", api.ErrSyntax, 14)
		right(t, "q(y)", false, true, -1)
		wrong(t, "p(x)?", api.ErrToken, 4)
		wrong(t, "exists x(p(y))", api.ErrFree, 0)
	}
}
