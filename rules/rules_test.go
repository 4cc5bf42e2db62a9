package rules

import (
	"testing"

	"vigil/api"
	"vigil/syntax"
	"vigil/token"
)

func check(t *testing.T, text string) (api.Info, api.Errno, int) {
	t.Helper()
	tokens, _, _ := token.Split(text)
	nodes, at, ok := syntax.Parse(tokens)
	if !ok {
		t.Fatalf("%q is refused at %d", text, at)
	}
	return Check(nodes)
}

func TestReach(t *testing.T) {
	for _, c := range []struct {
		text  string
		reach int
	}{
		{"true", api.None}, {"p(1)", api.None}, {"and(true,p(1))", api.None}, {"prev[5,9](true)", api.None}, {"once[5,*](true)", api.None},
		{"since[1,2](true,true)", api.None}, {"unsince[1,2](true,true)", api.None},
		{"next[1,2](true)", 2}, {"soon[1,3](true)", 3}, {"until[1,4](true,true)", 4}, {"ununtil[1,5](true,true)", 5}, {"soon[0,0](true)", 0},
		{"next[0,0](next[0,0](true))", 0}, {"next[0,1](soon[0,2](true))", 3}, {"soon[0,1](prev[0,9](next[0,2](true)))", 3},
		{"and(next[0,2](true),next[0,1](true))", 2}, {"and(next[0,1](true),next[0,2](true))", 2}, {"or(next[0,1](true),true)", 1}, {"but(true,next[0,1](true))", 1},
		{"until[0,10](next[0,2](true),next[0,1](true))", 12}, {"ununtil[0,10](next[0,1](true),next[0,2](true))", 12}, {"until[0,10](true,next[0,0](true))", 10},
		{"since[0,10](next[0,2](true),next[0,1](true))", 2}, {"unsince[0,10](next[0,1](true),next[0,2](true))", 2}, {"exists x(next[0,3](p(x)))", 3},
	} {
		i, e, at := check(t, c.text)
		if i != (api.Info{Reach: c.reach}) || e != api.OK || at != 0 {
			t.Errorf("P3: %q: %+v, %d, %d, want reach %d", c.text, i, e, at, c.reach)
		}
	}
}

// Each operator of two FORMULAs, with each two sets of free variables.
func TestFreePairs(t *testing.T) {
	parts := []string{"true", "p(x)", "p(y)", "p(x,y)"}
	for a := range parts {
		for b := range parts {
			firstAdds := a&^b != 0
			secondAdds := b&^a != 0
			for _, c := range []struct {
				head  string
				wrong bool
			}{
				{"and", false}, {"or", a != b}, {"but", secondAdds},
				{"since[0,1]", firstAdds}, {"unsince[0,1]", firstAdds}, {"until[0,1]", firstAdds}, {"ununtil[0,1]", firstAdds},
			} {
				text := c.head + "(" + parts[a] + "," + parts[b] + ")"
				i, e, at := check(t, text)
				switch {
				case c.wrong && (i != (api.Info{}) || e != api.ErrFree || at != 0):
					t.Errorf("P3: %q: %+v, %d, %d, want ErrFree", text, i, e, at)
				case !c.wrong && (i.X != ((a|b)&1 != 0) || i.Y != ((a|b)&2 != 0) || e != api.OK || at != 0):
					t.Errorf("P3: %q: %+v, %d, %d", text, i, e, at)
				}
			}
		}
	}
}

func TestNoNodes(t *testing.T) {
	if i, e, at := Check(nil); i != (api.Info{Reach: api.None}) || e != api.OK || at != 0 {
		t.Errorf("P1: no nodes: %+v, %d, %d", i, e, at)
	}
}
