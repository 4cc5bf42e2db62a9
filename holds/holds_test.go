package holds

import (
	"fmt"
	"slices"
	"strings"
	"testing"

	"vigil/api"
	"vigil/logline"
	"vigil/points"
	"vigil/rules"
	"vigil/syntax"
	"vigil/token"
)

func read(t *testing.T, formula string) ([]syntax.Node, api.Info) {
	t.Helper()
	tokens, _, _ := token.Split(formula)
	nodes, at, ok := syntax.Parse(tokens)
	if !ok {
		t.Fatalf("%q is refused at %d", formula, at)
	}
	info, e, at := rules.Check(nodes)
	if e != api.OK {
		t.Fatalf("%q is refused with %d at %d", formula, e, at)
	}
	return nodes, info
}

// logOf takes lines with a `|` between them.
func logOf(t *testing.T, lines string) *points.Log {
	t.Helper()
	log := &points.Log{}
	for _, text := range strings.Split(lines, "|") {
		line, at, ok := logline.Read(text)
		if !ok {
			t.Fatalf("%q is refused at %d", text, at)
		}
		if e := log.Add(line); e != api.OK {
			t.Fatalf("%q is refused with %d", text, e)
		}
	}
	return log
}

// written writes the answers with `|` between them: of each the pairs in order, as two digits.
func written(sets []api.Rel) string {
	var all []string
	for _, set := range sets {
		var pairs []string
		for x := range 10 {
			for y := range 10 {
				if set.Has(x, y) {
					pairs = append(pairs, fmt.Sprintf("%d%d", x, y))
				}
			}
			if set[x]>>10 != 0 {
				pairs = append(pairs, "bits that are no value")
			}
		}
		all = append(all, strings.Join(pairs, " "))
	}
	return strings.Join(all, "|")
}

func tell(t *testing.T, lines string, formula string, want string) {
	t.Helper()
	nodes, info := read(t, formula)
	log := logOf(t, lines)
	if got := written(Answers(nodes, info, log)); got != want {
		t.Errorf("P6: %q on %q: %q, want %q", formula, lines, got, want)
	}
}

func TestEvents(t *testing.T) {
	line := "@1 p(0) p(9) q(1,5) q(5,1) q(3,3) pq(2) p(4,4) p(9) x(1) true(1)"
	for formula, want := range map[string]string{
		"p(x)": "00 90", "p(y)": "00 09", "p(0)": "00", "p(9)": "00", "p(1)": "", "p(4)": "", "p(2)": "",
		"q(x,y)": "15 33 51", "q(y,x)": "15 33 51", "q(x,x)": "30", "q(y,y)": "03", "q(1,x)": "50", "q(x,1)": "50", "q(1,y)": "05", "q(y,5)": "01",
		"q(1,5)": "00", "q(5,1)": "00", "q(3,3)": "00", "q(1,1)": "", "q(5,5)": "", "q(x,9)": "", "q(x)": "", "q(3)": "",
		"p(x,y)": "44", "p(x,x)": "40", "pq(x)": "20", "pqr(x)": "", "pp(x)": "", "true": "00",
	} {
		tell(t, line, formula, want)
		tell(t, "@1", "and("+formula+",p(0))", "")
	}
	tell(t, "@1 abcdefgh(7)|@1 abcdefg(7)|@2 abcdefgi(7)", "abcdefgh(x)", "70||")
	tell(t, "@1 q(1,2)|@2 q(2,1)|@3", "q(x,y)", "12|21|")
}

// Parts with other free variables: where one is not free, every value of it does.
func TestTogether(t *testing.T) {
	lines := "@1 p(1) p(2) q(2) q(3) r(1,7) r(2,8) s(5)"
	for formula, want := range map[string]string{
		"and(p(x),q(x))": "20", "and(p(x),q(y))": "12 13 22 23", "and(p(y),q(x))": "21 22 31 32", "and(p(x),r(x,y))": "17 28", "and(r(x,y),p(x))": "17 28", "and(q(x),r(x,y))": "28",
		"and(p(x),s(5))": "10 20", "and(s(5),p(y))": "01 02", "and(p(x),s(4))": "", "and(true,r(x,y))": "17 28", "and(s(5),p(1))": "00", "and(s(5),p(3))": "",
		"but(p(x),q(x))": "10", "but(q(x),p(x))": "30", "but(r(x,y),p(x))": "", "but(r(x,y),q(x))": "17", "but(r(x,y),r(1,y))": "28", "but(p(x),s(5))": "", "but(p(x),s(4))": "10 20", "but(true,s(5))": "", "but(true,s(4))": "00", "but(p(x),true)": "",
		"or(p(x),q(x))": "10 20 30", "or(p(y),q(y))": "01 02 03", "or(r(x,y),r(y,x))": "17 28 71 82", "or(s(5),s(4))": "00", "or(s(4),s(5))": "00", "or(s(4),s(3))": "", "or(p(x),t(x))": "10 20", "or(t(x),p(x))": "10 20",
	} {
		tell(t, lines, formula, want)
	}
}

func TestSome(t *testing.T) {
	lines := "@1 r(0,7) r(9,7) r(9,0) p(0)|@2"
	for formula, want := range map[string]string{
		"exists x(r(x,y))": "00 07|", "exists y(r(x,y))": "00 90|", "exists x(p(x))": "00|", "exists y(p(y))": "00|", "exists x(exists y(r(x,y)))": "00|", "exists y(exists x(r(x,y)))": "00|", "exists x(r(x,x))": "|",
		"exists x(and(p(x),r(x,y)))": "07|", "and(exists x(r(x,0)),p(x))": "00|", "and(exists x(r(x,y)),p(x))": "00 07|", "exists x(and(exists x(r(x,0)),p(x)))": "00|", "exists x(but(r(x,7),p(x)))": "00|", "exists x(but(r(x,0),r(x,7)))": "|",
		"but(true,exists x(p(x)))": "|00", "but(r(x,y),exists x(and(p(x),r(x,y))))": "90|", "or(exists x(r(x,y)),p(y))": "00 07|",
	} {
		tell(t, lines, formula, want)
	}
}

func TestBeside(t *testing.T) {
	lines := "@65534 p(1)|@65534 p(2)|@1 p(3)|@9 p(4)"
	for formula, want := range map[string]string{
		"prev[0,0](p(x))": "|10||", "prev[0,2](p(x))": "|10||", "prev[0,3](p(x))": "|10|20|", "prev[3,3](p(x))": "||20|", "prev[4,7](p(x))": "|||", "prev[3,8](p(x))": "||20|30", "prev[8,8](p(x))": "|||30", "prev[9,*](p(x))": "|||", "prev[8,*](p(x))": "|||30", "prev[0,*](p(x))": "|10|20|30", "prev[0,*](true)": "|00|00|00",
		"next[0,0](p(x))": "20|||", "next[0,2](p(x))": "20|||", "next[0,3](p(x))": "20|30||", "next[3,3](p(x))": "|30||", "next[4,7](p(x))": "|||", "next[3,8](p(x))": "|30|40|", "next[8,8](p(x))": "||40|", "next[9,999](p(x))": "|||", "next[0,999](true)": "00|00|00|",
		"prev[0,*](prev[0,*](p(x)))": "||10|20", "next[0,9](prev[0,9](p(x)))": "10|20|30|", "prev[0,9](next[0,9](p(x)))": "|20|30|40", "but(true,prev[0,*](true))": "00|||", "but(true,next[0,9](true))": "|||00",
	} {
		tell(t, lines, formula, want)
	}
}

func TestOnceAndSoon(t *testing.T) {
	lines := "@65534 p(1)|@65534 p(2)|@1 p(3)|@9 p(4)"
	for formula, want := range map[string]string{
		"once[0,0](p(x))": "10|10 20|30|40", "once[0,2](p(x))": "10|10 20|30|40", "once[0,3](p(x))": "10|10 20|10 20 30|40", "once[3,3](p(x))": "||10 20|", "once[1,8](p(x))": "||10 20|30", "once[8,11](p(x))": "|||10 20 30", "once[9,10](p(x))": "|||", "once[11,11](p(x))": "|||10 20", "once[12,*](p(x))": "|||", "once[11,*](p(x))": "|||10 20", "once[0,*](p(x))": "10|10 20|10 20 30|10 20 30 40", "once[1,*](p(x))": "||10 20|10 20 30",
		"soon[0,0](p(x))": "10 20|20|30|40", "soon[0,2](p(x))": "10 20|20|30|40", "soon[0,3](p(x))": "10 20 30|20 30|30|40", "soon[3,3](p(x))": "30|30||", "soon[1,8](p(x))": "30|30|40|", "soon[8,11](p(x))": "40|40|40|", "soon[9,10](p(x))": "|||", "soon[11,11](p(x))": "40|40||", "soon[12,999](p(x))": "|||", "soon[0,999](p(x))": "10 20 30 40|20 30 40|30 40|40",
	} {
		tell(t, lines, formula, want)
	}
}

// Stamps that come again a round later are not of the same time.
func TestRound(t *testing.T) {
	lines := "@5 p(1)|@30000 p(2)|@60000 p(3)|@5 p(4)|@6 p(5)"
	for formula, want := range map[string]string{
		"once[0,999](p(x))": "10|20|30|40|40 50", "once[0,*](p(x))": "10|10 20|10 20 30|10 20 30 40|10 20 30 40 50", "once[999,*](p(x))": "|10|10 20|10 20 30|10 20 30", "soon[0,999](p(x))": "10|20|30|40 50|50", "since[0,0](true,p(x))": "10|20|30|40|50",
	} {
		tell(t, lines, formula, want)
	}
}

func TestSince(t *testing.T) {
	// The values stand for: 1 goes on throughout; 2 stops at point 2; 3 is not there at the start, where it need not be; 4 begins late.
	lines := "@10 b(1) b(2) b(3) a(1) a(2)|@12 a(1) a(2) a(3)|@12 a(1) a(3) b(4)|@15 a(1) a(2) a(3) a(4)"
	for formula, want := range map[string]string{
		"since[0,*](a(x),b(x))": "10 20 30|10 20 30|10 30 40|10 30 40", "since[1,*](a(x),b(x))": "|10 20 30|10 30|10 30 40", "since[2,2](a(x),b(x))": "|10 20 30|10 30|", "since[3,4](a(x),b(x))": "|||40", "since[5,5](a(x),b(x))": "|||10 30", "since[0,2](a(x),b(x))": "10 20 30|10 20 30|10 30 40|", "since[0,0](a(x),b(x))": "10 20 30||40|",
		"unsince[0,*](a(x),b(x))": "10 20 30||40|", "unsince[0,*](c(x),b(x))": "10 20 30|10 20 30|10 20 30 40|10 20 30 40", "unsince[3,3](c(x),b(x))": "|||40", "unsince[1,4](c(x),b(x))": "|10 20 30|10 20 30|40", "unsince[0,*](a(4),b(x))": "10 20 30|10 20 30|10 20 30 40|", "since[0,*](true,b(x))": "10 20 30|10 20 30|10 20 30 40|10 20 30 40", "since[0,*](a(4),b(x))": "10 20 30||40|40", "unsince[0,*](true,b(x))": "10 20 30||40|",
	} {
		tell(t, lines, formula, want)
	}
	tell(t, "@1 b(1)|@2|@3 b(1)|@4 a(1)|@5 a(1)", "since[3,*](a(x),b(x))", "||||")
	tell(t, "@1 b(1)|@2|@3 b(1)|@4 a(1)|@5 a(1)", "since[1,*](a(x),b(x))", "|||10|10")
	tell(t, "@1 b(1)|@2 a(1) b(1)|@3|@4 b(1)", "unsince[0,1](a(x),b(x))", "10|10|10|10")
	tell(t, "@1 b(1)|@2 a(1) b(1)|@3|@4 b(1)", "unsince[2,3](a(x),b(x))", "|||10")
}

func TestUntil(t *testing.T) {
	// As in TestSince, with the log the other way round.
	lines := "@10 a(1) a(2) a(3) a(4)|@13 a(1) a(3) b(4)|@13 a(1) a(2) a(3)|@15 b(1) b(2) b(3) a(1) a(2)"
	for formula, want := range map[string]string{
		"until[0,99](a(x),b(x))": "10 30 40|10 30 40|10 20 30|10 20 30", "until[1,99](a(x),b(x))": "10 30 40|10 30|10 20 30|", "until[2,2](a(x),b(x))": "|10 30|10 20 30|", "until[3,4](a(x),b(x))": "40|||", "until[5,5](a(x),b(x))": "10 30|||", "until[0,2](a(x),b(x))": "|10 30 40|10 20 30|10 20 30", "until[0,0](a(x),b(x))": "|40||10 20 30",
		"ununtil[0,99](a(x),b(x))": "|40||10 20 30", "ununtil[0,99](c(x),b(x))": "10 20 30 40|10 20 30 40|10 20 30|10 20 30", "ununtil[3,3](c(x),b(x))": "40|||", "ununtil[1,4](c(x),b(x))": "40|10 20 30|10 20 30|", "ununtil[0,99](a(4),b(x))": "|10 20 30 40|10 20 30|10 20 30", "until[0,99](true,b(x))": "10 20 30 40|10 20 30 40|10 20 30|10 20 30", "until[0,99](a(4),b(x))": "40|40||10 20 30", "ununtil[0,99](true,b(x))": "|40||10 20 30",
	} {
		tell(t, lines, formula, want)
	}
	tell(t, "@1 a(1)|@2 a(1)|@3 b(1)|@4|@5 b(1)", "until[3,9](a(x),b(x))", "||||")
	tell(t, "@1 a(1)|@2 a(1)|@3 b(1)|@4|@5 b(1)", "until[1,9](a(x),b(x))", "10|10|||")
}

func TestInOneAnother(t *testing.T) {
	lines := "@1 p(1)|@3 q(1,4)|@4 p(2) q(2,5)|@8 q(1,6)"
	for formula, want := range map[string]string{
		"and(once[0,*](p(x)),q(x,y))": "|14|25|16", "exists y(soon[1,4](q(x,y)))": "10 20|20|10|", "soon[0,9](and(p(x),next[0,9](q(x,y))))": "14|||", "and(p(x),soon[0,9](q(x,y)))": "14 16||25|",
		"since[0,*](exists y(q(x,y)),p(x))": "10|10|20|", "until[0,9](exists x(exists y(q(x,y))),p(x))": "10|20|20|", "but(once[0,*](p(x)),prev[0,*](once[0,*](p(x))))": "10||20|", "unsince[1,*](exists y(and(p(y),true)),q(x,y))": "|||25", "ununtil[0,9](p(2),q(1,y))": "04|04||06",
	} {
		tell(t, lines, formula, want)
	}
}

// What is handed in stays as it was, and asking again answers the same.
func TestTwice(t *testing.T) {
	nodes, info := read(t, "until[0,9](exists x(q(x,y)),and(p(x),once[0,*](p(y))))")
	log := logOf(t, "@1 p(1) q(3,1)|@2 p(2) q(1,1)|@3 p(1)")
	given := slices.Clone(nodes)
	first := Answers(nodes, info, log)
	want := written(first)
	first[0] = allPairs()
	first = append(first, allPairs())
	if got := written(Answers(nodes, info, log)); got != want || !slices.Equal(nodes, given) || log.Count() != 3 {
		t.Errorf("P2: at first %q, then %q; the nodes are %v, were %v", want, got, nodes, given)
	}
}

func TestNothing(t *testing.T) {
	nodes, info := read(t, "p(x)")
	if got := Answers(nodes, info, &points.Log{}); len(got) != 0 {
		t.Errorf("P1: with no points: %v", got)
	}
	if got := Answers(nil, api.Info{}, logOf(t, "@1 p(1)")); len(got) != 0 {
		t.Errorf("P1: with no formula: %v", got)
	}
	if got := withValue(token.X, 10); got != (api.Rel{}) {
		t.Errorf("P1: with a value that there is not: %v", got)
	}
}
