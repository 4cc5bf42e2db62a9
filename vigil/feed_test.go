package vigil

import (
	"fmt"
	"math/rand"
	"reflect"
	"regexp"
	"strconv"
	"strings"
	"testing"

	"vigil/api"
)

func monitor(t *testing.T, formula string) *Monitor {
	t.Helper()
	m, e, at := New(formula)
	if m == nil || e != api.OK || at != 0 {
		t.Fatalf("P4: New(%q) = %v, %d, %d", formula, m, e, at)
	}
	if got, told := m.Seen(); got != 0 || told != 0 {
		t.Errorf("P4: of a new monitor Seen() = %d, %d", got, told)
	}
	return m
}

func seen(t *testing.T, m *Monitor, want int) {
	t.Helper()
	if got, _ := m.Seen(); got != want {
		t.Errorf("P8: Seen() = %d, want %d", got, want)
	}
}

// refuse: the error comes with nothing else, and nothing that the monitor holds is changed.
func refuse(t *testing.T, m *Monitor, line string, e api.Errno, at int) {
	t.Helper()
	ahead := fmt.Sprintf("%#v", *m)
	l, gotE, gotAt := m.Feed(line)
	if l != nil || gotE != e || gotAt != at {
		t.Errorf("P5: Feed(%.90q) = %v, %d, %d, want %d, %d", line, l, gotE, gotAt, e, at)
	}
	if behind := fmt.Sprintf("%#v", *m); behind != ahead {
		t.Errorf("P1: Feed(%.90q) changed %s to %s", line, ahead, behind)
	}
}

func accept(t *testing.T, m *Monitor, line string) {
	t.Helper()
	count, _ := m.Seen()
	if _, e, at := m.Feed(line); e != api.OK || at != 0 {
		t.Errorf("P5: Feed(%q) = %d, %d", line, e, at)
	}
	seen(t, m, count+1)
}

func TestNew(t *testing.T) {
	r := rand.New(rand.NewSource(3))
	formulas := []string{"", "true", "p(x)", "p(x", "p(x)!", strings.Repeat(" ", 236) + "true", strings.Repeat(" ", 237) + "true", "once[5,3](p(1))", "soon[0,*](p(1))", "or(p(x),q(y))"}
	for range 4000 {
		text := someFormula(r, 1+r.Intn(6))
		if r.Intn(3) == 0 {
			text = spoil(r, text)
		}
		formulas = append(formulas, text)
	}
	for _, formula := range formulas {
		_, e, at := readSlowly(formula)
		m, gotE, gotAt := New(formula)
		if (m == nil) != (e != api.OK) || gotE != e || gotAt != at {
			t.Errorf("P4: New(%q) = %v, %d, %d, want %d, %d", formula, m, gotE, gotAt, e, at)
		}
		if m != nil {
			seen(t, m, 0)
		}
	}
}

func TestFeedExamples(t *testing.T) {
	m := monitor(t, "once[0,10](p(x))")
	refuse(t, m, "@1  p(1)", api.ErrSyntax, 3)
	refuse(t, m, "@70000", api.ErrSyntax, 5)
	refuse(t, m, "@1 p(1,2", api.ErrSyntax, 8)
	accept(t, m, "@65530 p(3)")
	accept(t, m, "@4 p(5)")
	accept(t, m, "@5")
	refuse(t, m, "@4", api.ErrBack, 0)
	refuse(t, m, "@32773", api.ErrBack, 0)
	accept(t, m, "@32772")
}

// Each bound, and one beyond it.
func TestFeedBounds(t *testing.T) {
	m := monitor(t, "p(x)")
	full := "@00001" + strings.Repeat(" p(1)", 12) + " p(1,2) pqr(3)"
	if len(full) != 80 {
		t.Fatalf("the line has %d bytes", len(full))
	}
	accept(t, m, full)
	refuse(t, m, full+" ", api.ErrLong, 0)
	refuse(t, m, strings.Replace(full, "pqr", "pqrs", 1), api.ErrLong, 0)
	refuse(t, m, full[:79], api.ErrSyntax, 79)
	refuse(t, m, full[:79]+" ", api.ErrSyntax, 79)
	refuse(t, m, full[:75]+" pqrs", api.ErrSyntax, 75)
	accept(t, m, "@1 abcdefgh(9)")
	refuse(t, m, "@1 abcdefghi(9)", api.ErrSyntax, 11)
	accept(t, m, "@32768")
	accept(t, m, "@65535")
	refuse(t, m, "@65536", api.ErrSyntax, 5)
	refuse(t, m, "@000000", api.ErrSyntax, 6)
	accept(t, m, "@00000")
}

// The first line may have any stamp: there is no point ahead of it.
func TestFirstStamp(t *testing.T) {
	for _, stamp := range []int{0, 1, 32767, 32768, 32769, 65535} {
		m := monitor(t, "true")
		accept(t, m, "@"+strconv.Itoa(stamp))
		refuse(t, m, "@"+strconv.Itoa((stamp+65535)%65536), api.ErrBack, 0)
		refuse(t, m, "@"+strconv.Itoa((stamp+32768)%65536), api.ErrBack, 0)
		accept(t, m, "@"+strconv.Itoa(stamp))
		accept(t, m, "@"+strconv.Itoa((stamp+32767)%65536))
	}
}

// Of several errors the one named first comes; with an ended log it comes to all lines.
func TestFeedWhichFirst(t *testing.T) {
	m := monitor(t, "next[0,5](p(x))")
	for range 40 {
		accept(t, m, "@100 p(1)")
	}
	long := "@99 " + strings.Repeat("p", 80)
	refuse(t, m, long, api.ErrLong, 0)
	refuse(t, m, "@99 p", api.ErrSyntax, 5)
	refuse(t, m, "@100 p", api.ErrSyntax, 6)
	refuse(t, m, "@99", api.ErrBack, 0)
	refuse(t, m, "@100", api.ErrFull, 0)
	refuse(t, m, "@101", api.ErrFull, 0)
	m.End()
	for _, line := range []string{long, "", "@99 p", "@99", "@100", "@101 p(1)"} {
		refuse(t, m, line, api.ErrEnded, 0)
	}
	seen(t, m, 40)
}

func TestEnded(t *testing.T) {
	for count := range 3 {
		m := monitor(t, "soon[1,2](p(x))")
		for range count {
			accept(t, m, "@100")
		}
		if _, e := m.End(); e != api.OK {
			t.Errorf("P5: End() = %d", e)
		}
		seen(t, m, count)
		refuse(t, m, "@100", api.ErrEnded, 0)
		refuse(t, m, "", api.ErrEnded, 0)
		if l, e := m.End(); l != nil || e != api.ErrEnded {
			t.Errorf("P5: the second End() = %v, %d", l, e)
		}
		refuse(t, m, "@100", api.ErrEnded, 0)
		seen(t, m, count)
	}
}

// A line that is refused leaves no trace: the next one is measured from the last that joined.
func TestRefusedLines(t *testing.T) {
	m := monitor(t, "true")
	refuse(t, m, "@50000 p(", api.ErrSyntax, 9)
	accept(t, m, "@10")
	refuse(t, m, "@20 p(", api.ErrSyntax, 6)
	refuse(t, m, "@40000", api.ErrBack, 0)
	refuse(t, m, "@9", api.ErrBack, 0)
	accept(t, m, "@10")
	accept(t, m, "@11")
}

func TestMonitorsApart(t *testing.T) {
	first, second := monitor(t, "p(x)"), monitor(t, "p(x)")
	accept(t, first, "@60000 p(1)")
	seen(t, second, 0)
	accept(t, second, "@1 q(2)")
	accept(t, second, "@2 q(2)")
	seen(t, first, 1)
	refuse(t, first, "@2000a", api.ErrSyntax, 5)
	refuse(t, first, "@59999", api.ErrBack, 0)
	first.End()
	accept(t, second, "@3")
	refuse(t, first, "@60001", api.ErrEnded, 0)
	seen(t, monitor(t, "p(x)"), 0)
}

// slowLog is what Feed does to the log again, by other means. It shares no code with the program.
type slowLog struct {
	stamps []int
	ended  bool
}

var linePattern = regexp.MustCompile(`^@([0-9]{1,5})( [a-z]{1,8}\([0-9](,[0-9])?\))*$`)

func isLine(text string) bool {
	m := linePattern.FindStringSubmatch(text)
	if m == nil {
		return false
	}
	stamp, _ := strconv.Atoi(m[1])
	return stamp <= 65535
}

// beginsLine tries all ends that a line can lack.
func beginsLine(text string) bool {
	for _, rest := range []string{"", "@0", "0", "a(0)", "(0)", "0)", ")"} {
		if isLine(text + rest) {
			return true
		}
	}
	return false
}

func (l *slowLog) feed(text string) (api.Errno, int) {
	switch {
	case l.ended:
		return api.ErrEnded, 0
	case len(text) > 80:
		return api.ErrLong, 0
	}
	for at := range len(text) {
		if !beginsLine(text[:at+1]) {
			return api.ErrSyntax, at
		}
	}
	if !isLine(text) {
		return api.ErrSyntax, len(text)
	}
	stamp, _ := strconv.Atoi(linePattern.FindStringSubmatch(text)[1])
	if count := len(l.stamps); count > 0 {
		// Clocks are set forward one by one until they meet, which they must before half a round.
		clock, steps := l.stamps[count-1], 0
		for clock != stamp {
			clock, steps = clock+1, steps+1
			if clock == 65536 {
				clock = 0
			}
		}
		if steps >= 32768 {
			return api.ErrBack, 0
		}
	}
	if len(l.stamps) == 40 {
		return api.ErrFull, 0
	}
	l.stamps = append(l.stamps, stamp)
	return api.OK, 0
}

// same feeds a line to both.
func same(t *testing.T, m *Monitor, slow *slowLog, line string) api.Errno {
	t.Helper()
	stamps := fmt.Sprint(slow.stamps)
	wantE, wantAt := slow.feed(line)
	l, e, at := m.Feed(line)
	if e != wantE || at != wantAt || e != api.OK && l != nil {
		t.Errorf("P5: behind %s Feed(%q) = %v, %d, %d, want %d, %d", stamps, line, l, e, at, wantE, wantAt)
	}
	seen(t, m, len(slow.stamps))
	return e
}

// Every byte, at every place of a line.
func TestFeedAnyByte(t *testing.T) {
	line := "@65530 abcdefgh(1,2) p(3)"
	for at := 0; at <= len(line); at++ {
		for b := range 256 {
			one := string([]byte{byte(b)})
			for _, text := range []string{line[:at] + one + line[at:], line[:at] + one + line[min(at+1, len(line)):], line[:at] + one} {
				same(t, monitor(t, "p(x)"), &slowLog{}, text)
			}
		}
		same(t, monitor(t, "p(x)"), &slowLog{}, line[:at])
		same(t, monitor(t, "p(x)"), &slowLog{}, line[at:])
	}
}

func TestAllShortLines(t *testing.T) {
	var grow func(row string, more int)
	grow = func(row string, more int) {
		same(t, monitor(t, "true"), &slowLog{}, row)
		if more == 0 {
			return
		}
		for _, next := range []string{"@", "0", "65", "535", " ", "p", "abcdefgh", "(", ")", ",", "\n", "[", "X"} {
			grow(row+next, more-1)
		}
	}
	grow("", 3)
	for _, start := range []string{"@1 p", "@1 p(1", "@65", "@6553", "@1 p(1)", "@1 p(1,2"} {
		grow(start, 3)
	}
}

func someLine(r *rand.Rand, stamp int) string {
	line := "@" + fmt.Sprintf("%0*d", 1+r.Intn(5), stamp)
	for range r.Intn(4) * r.Intn(5) {
		line += " " + []string{"p", "q", "x", "true", "abcdefgh"}[r.Intn(5)] + "(" + strconv.Itoa(r.Intn(10))
		if r.Intn(2) == 0 {
			line += "," + strconv.Itoa(r.Intn(10))
		}
		line += ")"
	}
	return line
}

func someSteps(r *rand.Rand) int {
	return []int{0, 1, r.Intn(20), r.Intn(65536), 32766 + r.Intn(4), 65535}[r.Intn(6)]
}

func TestManyLogs(t *testing.T) {
	r := rand.New(rand.NewSource(4))
	var count [10]int
	for range 300 {
		m, slow := monitor(t, "soon[0,9](p(x))"), &slowLog{}
		for range 20 + r.Intn(100) {
			stamp := r.Intn(65536)
			if len(slow.stamps) > 0 {
				stamp = (slow.stamps[len(slow.stamps)-1] + someSteps(r)) % 65536
			}
			line := someLine(r, stamp)
			if r.Intn(8) == 0 {
				line = spoil(r, line)
			}
			e := same(t, m, slow, line)
			count[e]++
			if r.Intn(200) == 0 {
				m.End()
				slow.ended = true
			}
		}
	}
	for _, e := range []api.Errno{api.OK, api.ErrLong, api.ErrSyntax, api.ErrBack, api.ErrFull, api.ErrEnded} {
		if count[e] < 50 {
			t.Errorf("the lines hold error %d only %d times", e, count[e])
		}
	}
}

// What Feed tells does not hang on what other monitors are told between its calls.
func TestInterleaved(t *testing.T) {
	r := rand.New(rand.NewSource(5))
	var monitors [3]*Monitor
	var slow [3]slowLog
	for i := range monitors {
		monitors[i] = monitor(t, "p(x)")
	}
	for range 600 {
		i := r.Intn(3)
		stamp := r.Intn(65536)
		same(t, monitors[i], &slow[i], someLine(r, stamp))
	}
	if reflect.DeepEqual(slow[0], slow[1]) {
		t.Errorf("the logs are one: %v", slow)
	}
}

func TestHugeLines(t *testing.T) {
	m := monitor(t, "p(x)")
	for _, part := range []string{"@", "0", " ", "p", " p(1)", "(", "\xff", "\x00"} {
		refuse(t, m, strings.Repeat(part, 1<<20), api.ErrLong, 0)
		refuse(t, m, "@0"+strings.Repeat(part, 1<<20), api.ErrLong, 0)
	}
	seen(t, m, 0)
}

func FuzzFeed(f *testing.F) {
	f.Add("@65530 p(3)\n@4 p(5)\n@5\n@32772")
	f.Add("@1  p(1)\n@70000\n@1 p(1,2\n\xff\x00")
	f.Add(strings.Repeat("@9\n", 41))
	f.Fuzz(func(t *testing.T, lines string) {
		m, slow := monitor(t, "p(x)"), &slowLog{}
		for _, line := range strings.SplitAfter(lines, "\n") {
			same(t, m, slow, line)
			same(t, m, slow, strings.TrimSuffix(line, "\n"))
		}
	})
}
