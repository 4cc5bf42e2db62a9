package vigil

import (
	"math/rand"
	"regexp"
	"strconv"
	"strings"
	"testing"

	"vigil/api"
)

// readSlowly is Check again, by other means: the tokens by patterns, the grammar as a list of rules that are all
// tried at once, free variables and reach by cutting the text at its brackets. It shares no code with the program.
func readSlowly(text string) (api.Info, api.Errno, int) {
	if len(text) > 240 {
		return api.Info{}, api.ErrLong, 0
	}
	pieces, at := cutTokens(text)
	if at >= 0 {
		return api.Info{}, api.ErrToken, at
	}
	if at := firstStray(pieces, len(text)); at >= 0 {
		return api.Info{}, api.ErrSyntax, at
	}
	for _, m := range spanPattern.FindAllStringSubmatchIndex(text, -1) {
		low, _ := strconv.Atoi(text[m[4]:m[5]])
		high, err := strconv.Atoi(text[m[6]:m[7]])
		if err == nil && low > high {
			return api.Info{}, api.ErrRange, m[3]
		}
	}
	for _, m := range spanPattern.FindAllStringSubmatchIndex(text, -1) {
		word := strings.TrimSpace(text[m[0]:m[3]])
		if text[m[6]:m[7]] == "*" && strings.Contains(" next soon until ununtil ", " "+word+" ") {
			return api.Info{}, api.ErrOpen, m[3]
		}
	}
	facts := look(pieces)
	if facts.fault >= 0 {
		return api.Info{}, api.ErrFree, facts.fault
	}
	return api.Info{X: facts.free["x"], Y: facts.free["y"], Reach: facts.reach}, api.OK, 0
}

type piece struct {
	text string
	at   int
}

var (
	tokenPattern = regexp.MustCompile(`^([0-9]+|[a-z]+|[(),\[\]*])`)
	spanPattern  = regexp.MustCompile(`[a-z]+([ \n]*)\[[ \n]*([0-9]+)[ \n]*,[ \n]*([0-9]+|\*)[ \n]*\]`)
	numPattern   = regexp.MustCompile(`^[0-9]+$`)
	wordPattern  = regexp.MustCompile(`^[a-z]+$`)
	digitPattern = regexp.MustCompile(`^[0-9]$`)
)

func cutTokens(text string) ([]piece, int) {
	var pieces []piece
	for at := 0; at < len(text); {
		if strings.Contains(" \n", text[at:at+1]) {
			at++
			continue
		}
		found := tokenPattern.FindString(text[at:])
		long := numPattern.MatchString(found) && len(found) > 3 || wordPattern.MatchString(found) && len(found) > 8
		if found == "" || long {
			return nil, at
		}
		pieces = append(pieces, piece{found, at})
		at += len(found)
	}
	return pieces, -1
}

const meanings = " x y true and but or exists prev next once soon since unsince until ununtil "

var grammar = map[string][]string{
	"FORMULA": {
		"true", "NAME ( ARG )", "NAME ( ARG , ARG )",
		"and ( FORMULA , FORMULA )", "but ( FORMULA , FORMULA )", "or ( FORMULA , FORMULA )", "exists VAR ( FORMULA )",
		"prev SPAN ( FORMULA )", "next SPAN ( FORMULA )", "once SPAN ( FORMULA )", "soon SPAN ( FORMULA )",
		"since SPAN ( FORMULA , FORMULA )", "unsince SPAN ( FORMULA , FORMULA )",
		"until SPAN ( FORMULA , FORMULA )", "ununtil SPAN ( FORMULA , FORMULA )",
	},
	"VAR":  {"x", "y"},
	"ARG":  {"VAR", "DIGIT"},
	"SPAN": {"[ NUM , NUM ]", "[ NUM , * ]"},
}

// symbol is what is still to come; depth is how deep the FORMULA stands that it is, or that it is in.
type symbol struct {
	name  string
	depth int
}

func firstStray(pieces []piece, length int) int {
	states := [][]symbol{{{"FORMULA", 1}}}
	for _, p := range pieces {
		var next [][]symbol
		for _, state := range states {
			next = append(next, step(state, p.text)...)
		}
		if len(next) == 0 {
			return p.at
		}
		states = next
	}
	for _, state := range states {
		if len(state) == 0 {
			return -1
		}
	}
	return length
}

// step tells all that may still come behind this token.
func step(state []symbol, text string) [][]symbol {
	if len(state) == 0 {
		return nil
	}
	top, rest := state[0], state[1:]
	bodies, ok := grammar[top.name]
	if !ok {
		if fits(top.name, text) {
			return [][]symbol{rest}
		}
		return nil
	}
	if top.name == "FORMULA" && top.depth > 8 {
		return nil
	}
	var all [][]symbol
	for _, body := range bodies {
		var longer []symbol
		for _, name := range strings.Fields(body) {
			depth := top.depth
			if name == "FORMULA" {
				depth++
			}
			longer = append(longer, symbol{name, depth})
		}
		all = append(all, step(append(longer, rest...), text)...)
	}
	return all
}

func fits(terminal string, text string) bool {
	switch terminal {
	case "NAME":
		return wordPattern.MatchString(text) && !strings.Contains(meanings, " "+text+" ")
	case "NUM":
		return numPattern.MatchString(text)
	case "DIGIT":
		return digitPattern.MatchString(text)
	}
	return terminal == text
}

type facts struct {
	free  map[string]bool
	reach int
	fault int // the first place of ErrFree in it, or -1
}

// look is called with the tokens of one whole FORMULA.
func look(pieces []piece) facts {
	word := pieces[0].text
	f := facts{map[string]bool{}, -1, -1}
	if word == "true" {
		return f
	}
	open := 0
	for pieces[open].text != "(" {
		open++
	}
	inside := pieces[open+1 : len(pieces)-1]
	if !strings.Contains(meanings, " "+word+" ") {
		for _, p := range inside {
			if p.text == "x" || p.text == "y" {
				f.free[p.text] = true
			}
		}
		return f
	}
	var parts []facts
	for _, part := range cutAtCommas(inside) {
		parts = append(parts, look(part))
	}
	for _, part := range parts {
		for v := range part.free {
			f.free[v] = true
		}
		f.reach = max(f.reach, part.reach)
		if f.fault < 0 {
			f.fault = part.fault
		}
	}
	switch word {
	case "next", "soon", "until", "ununtil":
		high, _ := strconv.Atoi(pieces[4].text)
		f.reach = high + max(f.reach, 0)
	case "exists":
		delete(f.free, pieces[1].text)
	}
	if breaksRule(word, pieces[1].text, parts) {
		f.fault = pieces[0].at
	}
	return f
}

func breaksRule(word string, variable string, parts []facts) bool {
	switch word {
	case "or":
		return lacks(parts[0], parts[1]) || lacks(parts[1], parts[0])
	case "but":
		return lacks(parts[0], parts[1])
	case "since", "unsince", "until", "ununtil":
		return lacks(parts[1], parts[0])
	case "exists":
		return !parts[0].free[variable]
	}
	return false
}

// lacks: has the other a free variable that this one does not have?
func lacks(this facts, other facts) bool {
	for v := range other.free {
		if !this.free[v] {
			return true
		}
	}
	return false
}

func cutAtCommas(pieces []piece) [][]piece {
	var parts [][]piece
	level, start := 0, 0
	for i, p := range pieces {
		switch p.text {
		case "(", "[":
			level++
		case ")", "]":
			level--
		case ",":
			if level == 0 {
				parts = append(parts, pieces[start:i])
				start = i + 1
			}
		}
	}
	return append(parts, pieces[start:])
}

var someTokens = strings.Fields("x y z true and but or exists prev next once soon since unsince until ununtil ( ) , [ ] * 0 7 12 345 abcdefgh")

// someFormula writes a FORMULA by the rules of the grammar, of at most this depth.
func someFormula(r *rand.Rand, depth int) string {
	return someText(r, "FORMULA", depth)
}

func someText(r *rand.Rand, name string, depth int) string {
	switch name {
	case "NAME":
		return []string{"p", "q", "abcdefgh"}[r.Intn(3)]
	case "DIGIT":
		return strconv.Itoa(r.Intn(10))
	case "NUM":
		return strconv.Itoa(r.Intn(7) * r.Intn(7))
	}
	bodies, ok := grammar[name]
	if !ok {
		return name
	}
	body := bodies[r.Intn(len(bodies))]
	if name == "FORMULA" && depth <= 1 {
		body = bodies[r.Intn(3)]
	}
	if name == "SPAN" && r.Intn(8) > 0 {
		low := r.Intn(50)
		return "[" + strconv.Itoa(low) + "," + strconv.Itoa(low+r.Intn(900)) + "]"
	}
	var text string
	for _, part := range strings.Fields(body) {
		if part == "VAR" && text != "" || r.Intn(40) == 0 {
			text += " "
		}
		inner := depth
		if part == "FORMULA" {
			inner--
		}
		text += someText(r, part, inner)
	}
	return text
}

// spoil changes one token or byte, or cuts the text.
func spoil(r *rand.Rand, text string) string {
	at := r.Intn(len(text) + 1)
	end := min(len(text), at+r.Intn(3))
	switch r.Intn(4) {
	case 0:
		return text[:at] + someTokens[r.Intn(len(someTokens))] + text[end:]
	case 1:
		return text[:at] + text[end:]
	case 2:
		return text[:at]
	}
	return text[:at] + string([]byte{byte(r.Intn(256))}) + text[end:]
}

func TestManyFormulas(t *testing.T) {
	r := rand.New(rand.NewSource(1))
	var count [10]int
	for range 40000 {
		text := someFormula(r, 1+r.Intn(6))
		if r.Intn(3) == 0 {
			text = spoil(r, text)
		}
		sound(t, text)
		_, e, _ := Check(text)
		count[e]++
	}
	for e := api.OK; e <= api.ErrFree; e++ {
		if count[e] < 50 {
			t.Errorf("the formulas hold error %d only %d times", e, count[e])
		}
	}
}

// Deep and narrow, so that the bound of the depth is met before that of the length.
func TestManyDeepFormulas(t *testing.T) {
	r := rand.New(rand.NewSource(2))
	heads := []string{"prev[0,1](", "soon[2,3](", "exists x(", "and(p(x),", "but(", "until[0,9](p(y),", "or(p(x,y),"}
	for range 20000 {
		text := ""
		for range 5 + r.Intn(5) {
			text += heads[r.Intn(len(heads))]
		}
		text += someFormula(r, 1+r.Intn(2))
		for range 5 + r.Intn(5) {
			text += []string{")", ")", ",p(x))", ",true)"}[r.Intn(4)]
		}
		sound(t, text)
	}
}

func TestAllShortRows(t *testing.T) {
	var grow func(row string, more int)
	grow = func(row string, more int) {
		sound(t, row)
		if more == 0 {
			return
		}
		for _, next := range someTokens {
			grow(row+next+" ", more-1)
		}
	}
	grow("", 3)
}

func FuzzCheck(f *testing.F) {
	f.Add("soon[0,5](and(p(x),next[1,2](q(x,y))))")
	f.Add("exists y(once[3,*](q(1,y)))")
	f.Add("\xff\x00")
	f.Fuzz(sound)
}
