package vigil

import (
	"math/rand"
	"slices"
	"strconv"
	"strings"
	"testing"

	"vigil/api"
)

// verdict: of a point: pairs, each as 10 times x plus y.
func verdict(point int, stamp api.Stamp, pairs ...int) api.Verdict {
	v := api.Verdict{Point: point, Stamp: stamp}
	for _, p := range pairs {
		v.Holds = v.Holds.With(p/10, p%10)
	}
	return v
}

func feed(t *testing.T, m *Monitor, line string, want ...api.Verdict) {
	t.Helper()
	l, e, at := m.Feed(line)
	if e != api.OK || at != 0 || !slices.Equal(l, want) {
		t.Errorf("P6: Feed(%q) = %v, %d, %d, want %v", line, l, e, at, want)
	}
}

func end(t *testing.T, m *Monitor, want ...api.Verdict) {
	t.Helper()
	if l, e := m.End(); e != api.OK || !slices.Equal(l, want) {
		t.Errorf("P7: End() = %v, %d, want %v", l, e, want)
	}
}

func told(t *testing.T, m *Monitor, points int, verdicts int) {
	t.Helper()
	if a, b := m.Seen(); a != points || b != verdicts {
		t.Errorf("P8: Seen() = %d, %d, want %d, %d", a, b, points, verdicts)
	}
}

func TestVerdictExamples(t *testing.T) {
	m := monitor(t, "once[0,10](p(x))")
	feed(t, m, "@65530 p(3)", verdict(0, 65530, 30))
	feed(t, m, "@4 p(5)", verdict(1, 4, 30, 50))
	feed(t, m, "@5", verdict(2, 5, 50))
	told(t, m, 3, 3)
	end(t, m)
	told(t, m, 3, 3)

	m = monitor(t, "soon[1,2](p(x))")
	feed(t, m, "@100")
	feed(t, m, "@101 p(7)")
	feed(t, m, "@102 p(8)")
	told(t, m, 3, 0)
	feed(t, m, "@103", verdict(0, 100, 70, 80))
	told(t, m, 4, 1)
	end(t, m, verdict(1, 101, 80), verdict(2, 102), verdict(3, 103))
	told(t, m, 4, 4)
	refuse(t, m, "@104", api.ErrEnded, 0)
	if l, e := m.End(); l != nil || e != api.ErrEnded {
		t.Errorf("P7: the second End() = %v, %d", l, e)
	}
	told(t, m, 4, 4)

	m = monitor(t, "unsince[0,*](q(x),p(x))")
	feed(t, m, "@1 p(1) p(2)", verdict(0, 1, 10, 20))
	feed(t, m, "@2 q(1)", verdict(1, 2, 20))
	feed(t, m, "@3 p(1) q(1)", verdict(2, 3, 10, 20))
}

// Settled is above the reach, not at it, and by the sum of the times, not by the stamps.
func TestWhenSettled(t *testing.T) {
	m := monitor(t, "soon[0,0](p(x))")
	feed(t, m, "@7 p(1)")
	feed(t, m, "@7 p(2)")
	feed(t, m, "@8", verdict(0, 7, 10, 20), verdict(1, 7, 20))
	end(t, m, verdict(2, 8))

	m = monitor(t, "next[0,5](p(x))")
	feed(t, m, "@65533")
	feed(t, m, "@65535 p(1)")
	feed(t, m, "@2 p(2)")
	feed(t, m, "@3 p(3)", verdict(0, 65533, 10))
	feed(t, m, "@4 p(4)")
	feed(t, m, "@5", verdict(1, 65535, 20))
	feed(t, m, "@32772", verdict(2, 2, 30), verdict(3, 3, 40), verdict(4, 4), verdict(5, 5))
	feed(t, m, "@3", verdict(6, 32772))
	end(t, m, verdict(7, 3))

	m = monitor(t, strings.Repeat("soon[0,999](", 7)+"true"+strings.Repeat(")", 7))
	feed(t, m, "@60000")
	feed(t, m, "@1457")
	feed(t, m, "@1458", verdict(0, 60000, 0))

	// The reach counts, not whether a later line could still change it.
	m = monitor(t, "and(p(x),soon[0,9](true))")
	feed(t, m, "@1")
	feed(t, m, "@10")
	told(t, m, 2, 0)
	feed(t, m, "@11", verdict(0, 1))

	// A whole round later, with the stamp that it began with.
	m = monitor(t, "soon[0,9](p(x))")
	feed(t, m, "@5 p(1)")
	feed(t, m, "@30000 p(2)", verdict(0, 5, 10))
	feed(t, m, "@60000 p(3)", verdict(1, 30000, 20))
	feed(t, m, "@5 p(4)", verdict(2, 60000, 30))
	end(t, m, verdict(3, 5, 40))
}

func TestEmptyLog(t *testing.T) {
	for _, formula := range []string{"true", "p(x)", "soon[0,9](p(x))", "but(true,once[0,*](true))"} {
		m := monitor(t, formula)
		if l, e := m.End(); len(l) != 0 || e != api.OK {
			t.Errorf("P7: %q: End() = %v, %d", formula, l, e)
		}
		told(t, m, 0, 0)
	}
}

// A line that is refused tells nothing, and what is told behind it is as if it had not come.
func TestRefusedBetween(t *testing.T) {
	m := monitor(t, "soon[0,2](p(x))")
	feed(t, m, "@10 p(1)")
	refuse(t, m, "@20 p(2) p", api.ErrSyntax, 10)
	refuse(t, m, "@9 p(2)", api.ErrBack, 0)
	told(t, m, 1, 0)
	feed(t, m, "@12 p(3)")
	refuse(t, m, "@20 p(2)"+strings.Repeat(" p(2)", 20), api.ErrLong, 0)
	feed(t, m, "@13", verdict(0, 10, 10, 30))
	refuse(t, m, "@20 p(2", api.ErrSyntax, 7)
	told(t, m, 3, 1)
	end(t, m, verdict(1, 12, 30), verdict(2, 13))
}

func TestFullLog(t *testing.T) {
	m := monitor(t, "until[0,9](p(1),p(x))")
	for range 40 {
		feed(t, m, "@3 p(1) p(2)")
	}
	refuse(t, m, "@100", api.ErrFull, 0)
	told(t, m, 40, 0)
	l, e := m.End()
	if len(l) != 40 || e != api.OK {
		t.Fatalf("P7: End() = %v, %d", l, e)
	}
	for i := range l {
		if l[i] != verdict(i, 3, 10, 20) {
			t.Errorf("P7: point %d: %v", i, l[i])
		}
	}
	told(t, m, 40, 40)
}

// All values, in the answers too: none is left out at the ends.
func TestAllValues(t *testing.T) {
	for a := range 10 {
		for b := range 10 {
			happening := "q(" + strconv.Itoa(a) + "," + strconv.Itoa(b) + ")"
			for formula, want := range map[string]int{
				"q(x,y)": 10*a + b, "q(y,x)": 10*b + a, "exists x(q(x,y))": b, "exists y(q(x,y))": 10 * a, "exists y(exists x(q(x,y)))": 0, happening: 0, "and(q(x," + strconv.Itoa(b) + "),q(" + strconv.Itoa(a) + ",y))": 10*a + b, "since[0,*](true,q(x,y))": 10*a + b,
			} {
				feed(t, monitor(t, formula), "@9 "+happening, verdict(0, 9, want))
			}
		}
	}
	m := monitor(t, "once[0,*](q(x,y))")
	var all []int
	for x := range 10 {
		line := "@" + strconv.Itoa(x)
		for y := range 10 {
			line += " q(" + strconv.Itoa(x) + "," + strconv.Itoa(y) + ")"
			all = append(all, 10*x+y)
		}
		feed(t, m, line, verdict(x, api.Stamp(x), all...))
	}
}

// watch is a monitor with all lines that it took, and all that it told.
type watch struct {
	formula string
	reach   int
	m       *Monitor
	o       truth
	lines   []string
	told    []api.Verdict
}

func newWatch(t *testing.T, formula string) *watch {
	t.Helper()
	pieces, _ := cutTokens(formula)
	return &watch{formula: formula, reach: look(pieces).reach, m: monitor(t, formula)}
}

// take keeps what was told, and then writes into the list and its spare room, as its owner may.
func (w *watch) take(t *testing.T, l []api.Verdict, want int) {
	t.Helper()
	w.told = append(w.told, l...)
	l = l[:cap(l)]
	for i := range l {
		l[i] = verdict(99, 99, 99)
	}
	if len(w.told) != want {
		t.Fatalf("P6: %q on %q: %d verdicts were told, want %d", w.formula, w.lines, len(w.told), want)
	}
	told(t, w.m, len(w.lines), want)
}

func (w *watch) feed(t *testing.T, line string) {
	t.Helper()
	l, e, at := w.m.Feed(line)
	if e != api.OK || at != 0 {
		t.Fatalf("P5: %q: Feed(%q) = %d, %d", w.formula, line, e, at)
	}
	w.lines = append(w.lines, line)
	w.o.add(line)
	w.take(t, l, w.o.settled(w.reach))
}

// end compares all that was told, however early, with what holds in the whole log.
func (w *watch) end(t *testing.T) {
	t.Helper()
	l, e := w.m.End()
	if e != api.OK {
		t.Fatalf("P7: %q: End() = %d", w.formula, e)
	}
	w.take(t, l, len(w.lines))
	for i, v := range w.told {
		want := api.Verdict{Point: i, Stamp: api.Stamp(w.o.stamps[i]), Holds: w.o.answer(w.formula, i)}
		if v != want {
			t.Fatalf("P6: %q on %q: %v, want %v", w.formula, w.lines, v, want)
		}
	}
}

// soundFormula writes one in which just these variables are free, so that no rule is broken.
func soundFormula(r *rand.Rand, depth int, x bool, y bool) string {
	some := func(more bool) bool { return more && r.Intn(2) == 0 }
	ahead, past := []string{"next", "soon", "until", "ununtil"}, []string{"prev", "once", "since", "unsince"}
	if depth <= 1 || r.Intn(8) == 0 {
		return soundEvent(r, x, y)
	}
	whole := soundFormula(r, depth-1, x, y)
	less := soundFormula(r, depth-1, some(x), some(y))
	switch r.Intn(8) {
	case 0:
		word := []string{"and", "but"}[r.Intn(2)]
		return word + "(" + whole + "," + less + ")"
	case 1:
		return "and(" + less + "," + whole + ")"
	case 2:
		return "or(" + whole + "," + soundFormula(r, depth-1, x, y) + ")"
	case 3:
		if !x {
			return "exists x(" + soundFormula(r, depth-1, true, y) + ")"
		}
		if !y {
			return "exists y(" + soundFormula(r, depth-1, x, true) + ")"
		}
	}
	low := r.Intn(4)
	high := strconv.Itoa(low + []int{0, 1, 3, 6, 900}[r.Intn(5)])
	word := ahead[r.Intn(4)]
	if r.Intn(2) == 0 {
		word = past[r.Intn(4)]
		if r.Intn(3) == 0 {
			high = "*"
		}
	}
	head := word + "[" + strconv.Itoa(low) + "," + high + "]("
	if len(word) == 4 {
		return head + whole + ")"
	}
	return head + less + "," + whole + ")"
}

func soundEvent(r *rand.Rand, x bool, y bool) string {
	digit := strconv.Itoa(r.Intn(3))
	switch {
	case x && y:
		return []string{"q(x,y)", "q(y,x)"}[r.Intn(2)]
	case x:
		return []string{"p(x)", "pp(x)", "q(x,x)", "q(x," + digit + ")", "q(" + digit + ",x)"}[r.Intn(5)]
	case y:
		return strings.ReplaceAll(soundEvent(r, true, false), "x", "y")
	}
	return []string{"true", "p(" + digit + ")", "pp(" + digit + ")", "q(" + digit + ",1)"}[r.Intn(4)]
}

func soundLine(r *rand.Rand, stamp int, many int) string {
	line := "@" + strconv.Itoa(stamp%65536)
	for range r.Intn(many + 1) {
		a, b := strconv.Itoa(r.Intn(3)), strconv.Itoa(r.Intn(3))
		line += " " + []string{"p(" + a + ")", "pp(" + a + ")", "q(" + a + "," + b + ")", "q(" + a + "," + b + ")", "p(" + a + "," + b + ")"}[r.Intn(5)]
	}
	return line
}

// soundStep is mostly short, so that spans are met, and now and then as long as it can be.
func soundStep(r *rand.Rand) int {
	return []int{0, 0, 1, 1, 2, 3, r.Intn(8), r.Intn(40), 900 + r.Intn(100), 32767}[r.Intn(10)]
}

func TestManyVerdicts(t *testing.T) {
	r := rand.New(rand.NewSource(6))
	var early, late, nothing, something int
	for range 6000 {
		formula := soundFormula(r, 1+r.Intn(5), r.Intn(2) == 0, r.Intn(2) == 0)
		if len(formula) > 240 {
			continue
		}
		w := newWatch(t, formula)
		stamp, many := r.Intn(65536), r.Intn(9)
		for range r.Intn(12) {
			w.feed(t, soundLine(r, stamp, many))
			stamp += soundStep(r)
		}
		early += len(w.told)
		late += len(w.lines) - len(w.told)
		w.end(t)
		for _, v := range w.told {
			if v.Holds == (api.Rel{}) {
				nothing++
			} else {
				something++
			}
		}
	}
	if min(early, late, nothing, something) < 5000 {
		t.Errorf("of the verdicts come with Feed %d, with End %d; empty are %d, not empty %d", early, late, nothing, something)
	}
}

// As many points as there may be, and the longest formulas.
func TestManyLongLogs(t *testing.T) {
	r := rand.New(rand.NewSource(7))
	for range 60 {
		formula := ""
		for len(formula) < 100 || len(formula) > 240 {
			formula = soundFormula(r, 8, r.Intn(2) == 0, r.Intn(2) == 0)
		}
		w := newWatch(t, formula)
		stamp := r.Intn(65536)
		for range 40 {
			w.feed(t, soundLine(r, stamp, 9))
			stamp += r.Intn(4) * r.Intn(3)
		}
		refuse(t, w.m, "@"+strconv.Itoa(stamp%65536), api.ErrFull, 0)
		w.end(t)
	}
}

// Every two operators in one another, on logs that come to their edges.
func TestOperatorsInOneAnother(t *testing.T) {
	r := rand.New(rand.NewSource(8))
	heads := []string{"and(#,%)", "but(#,%)", "or(#,#)", "exists y(and(#,q(x,y)))", "prev[0,2](#)", "next[0,2](#)", "once[1,3](#)", "soon[1,3](#)", "since[0,3](%,#)", "unsince[1,*](%,#)", "until[0,3](%,#)", "ununtil[1,4](%,#)"}
	for _, outer := range heads {
		for _, inner := range heads {
			for range 12 {
				filled := strings.ReplaceAll(strings.ReplaceAll(inner, "#", soundEvent(r, true, false)), "%", soundEvent(r, r.Intn(2) == 0, false))
				formula := strings.ReplaceAll(strings.ReplaceAll(outer, "#", filled), "%", []string{filled, "p(x)", "pp(1)"}[r.Intn(3)])
				w := newWatch(t, formula)
				stamp := 65530 + r.Intn(6)
				for range 8 {
					w.feed(t, soundLine(r, stamp, 8))
					stamp += r.Intn(4)
				}
				w.end(t)
			}
		}
	}
}

// Monitors between whose calls others are called tell what they would tell alone.
func TestVerdictsApart(t *testing.T) {
	r := rand.New(rand.NewSource(9))
	for range 60 {
		var watches [4]*watch
		var stamps [4]int
		for i := range watches {
			formula := strings.Repeat("z", 241)
			for len(formula) > 240 {
				formula = soundFormula(r, 4, true, i%2 == 0)
			}
			watches[i] = newWatch(t, formula)
		}
		watches[3] = newWatch(t, watches[0].formula)
		for range 60 {
			i := r.Intn(4)
			if len(watches[i].lines) < 40 {
				watches[i].feed(t, soundLine(r, stamps[i], 6))
				stamps[i] += soundStep(r)
			}
		}
		for i := range watches {
			watches[i].end(t)
		}
	}
}

// The same log, all stamps the same number later, has the same answers.
func TestLater(t *testing.T) {
	r := rand.New(rand.NewSource(10))
	for range 1500 {
		formula := soundFormula(r, 3, r.Intn(2) == 0, r.Intn(2) == 0)
		shift := []int{1, 32767, 32768, 65535, r.Intn(65536)}[r.Intn(5)]
		here, there := monitor(t, formula), monitor(t, formula)
		var a, b []api.Verdict
		stamp := r.Intn(65536)
		for range 10 {
			seed := r.Int63()
			l, _, _ := here.Feed(soundLine(rand.New(rand.NewSource(seed)), stamp, 6))
			m, _, _ := there.Feed(soundLine(rand.New(rand.NewSource(seed)), stamp+shift, 6))
			a, b = append(a, l...), append(b, m...)
			if len(a) != len(b) {
				t.Fatalf("P9: %q: %d verdicts, later by %d %d", formula, len(a), shift, len(b))
			}
			stamp += soundStep(r)
		}
		l, _ := here.End()
		m, _ := there.End()
		a, b = append(a, l...), append(b, m...)
		for i := range a {
			a[i].Stamp += api.Stamp(uint16(shift % 65536))
		}
		if len(a) != 10 || !slices.Equal(a, b) {
			t.Fatalf("P9: %q: %v, later by %d %v", formula, a, shift, b)
		}
	}
}

// What was told does not hang on lines that come later, whatever they are: two logs that part behind a line.
func TestParting(t *testing.T) {
	r := rand.New(rand.NewSource(11))
	for range 1500 {
		formula := soundFormula(r, 4, r.Intn(2) == 0, r.Intn(2) == 0)
		if len(formula) > 240 {
			continue
		}
		one, other := newWatch(t, formula), newWatch(t, formula)
		stamp := r.Intn(65536)
		for range 1 + r.Intn(8) {
			line := soundLine(r, stamp, 6)
			one.feed(t, line)
			other.feed(t, line)
			stamp += soundStep(r)
		}
		together := len(one.told)
		for range r.Intn(6) {
			one.feed(t, soundLine(r, stamp, 6))
			stamp += soundStep(r)
		}
		one.end(t)
		other.end(t)
		if !slices.Equal(one.told[:together], other.told[:together]) {
			t.Fatalf("P9: %q: %v, %v", formula, one.told, other.told)
		}
	}
}

// A list that was told is the caller's: nothing that comes later is written into it or into its spare room.
func TestListsStay(t *testing.T) {
	m := monitor(t, "once[0,*](p(x))")
	var lists [][]api.Verdict
	for i := range 20 {
		l, _, _ := m.Feed("@" + strconv.Itoa(i) + " p(" + strconv.Itoa(i%10) + ")")
		l = append(l, verdict(i, 7, 77), verdict(i, 8, 88))
		lists = append(lists, l)
	}
	m.End()
	for i, l := range lists {
		if len(l) != 3 || l[0].Point != i || l[1] != verdict(i, 7, 77) || l[2] != verdict(i, 8, 88) {
			t.Errorf("P2: list %d is %v", i, l)
		}
	}
}

func FuzzVerdicts(f *testing.F) {
	f.Add("soon[1,2](p(x))", "@100\n@101 p(7)\n@102 p(8)\n@103")
	f.Add("unsince[0,*](q(x),p(x))", "@1 p(1) p(2)\n@2 q(1)\n@3 p(1) q(1)")
	f.Add("until[0,9](exists x(q(x,y)),and(p(x),once[0,*](p(y))))", "@65535 p(1) q(3,1)\n@2 p(2) q(1,1)\n@30 p(1)")
	f.Fuzz(func(t *testing.T, formula string, lines string) {
		if _, e, _ := readSlowly(formula); e != api.OK {
			return
		}
		w := newWatch(t, formula)
		log := &slowLog{}
		for _, line := range strings.Split(lines, "\n") {
			e, at := log.feed(line)
			if e == api.OK {
				w.feed(t, line)
			} else {
				refuse(t, w.m, line, e, at)
			}
		}
		w.end(t)
	})
}
