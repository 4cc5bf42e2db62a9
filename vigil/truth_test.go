package vigil

import (
	"slices"
	"strconv"
	"strings"

	"vigil/api"
)

// truth is what holds again, word by word from the text of the document, for one pair of values at a time.
// It shares no code with the program.
type truth struct {
	stamps     []int
	steps      []int // to each point from the one ahead of it
	happenings []string
	known      map[[4]int]bool
}

func (o *truth) add(line string) {
	words := strings.Split(line, " ")
	stamp, _ := strconv.Atoi(words[0][1:])
	step := 0
	if count := len(o.stamps); count > 0 {
		step = stamp - o.stamps[count-1]
		if step < 0 {
			step += 65536
		}
	}
	o.stamps = append(o.stamps, stamp)
	o.steps = append(o.steps, step)
	o.happenings = append(o.happenings, " "+strings.Join(words[1:], " ")+" ")
	o.known = map[[4]int]bool{}
}

func (o *truth) time(i int, j int) int {
	sum := 0
	for k := i + 1; k <= j; k++ {
		sum += o.steps[k]
	}
	return sum
}

// holds remembers what it was asked: a FORMULA is known by the place of its first token.
func (o *truth) holds(pieces []piece, x int, y int, i int) bool {
	key := [4]int{pieces[0].at, x, y, i}
	known, ok := o.known[key]
	if !ok {
		known = o.look(pieces, x, y, i)
		o.known[key] = known
	}
	return known
}

func (o *truth) look(pieces []piece, x int, y int, i int) bool {
	word := pieces[0].text
	if word == "true" {
		return true
	}
	open := slices.IndexFunc(pieces, func(p piece) bool { return p.text == "(" })
	parts := cutAtCommas(pieces[open+1 : len(pieces)-1])
	first, second := parts[0], parts[len(parts)-1]
	switch word {
	case "and":
		return o.holds(first, x, y, i) && o.holds(second, x, y, i)
	case "but":
		return o.holds(first, x, y, i) && !o.holds(second, x, y, i)
	case "or":
		return o.holds(first, x, y, i) || o.holds(second, x, y, i)
	case "exists":
		for value := range 10 {
			if pieces[1].text == "x" && o.holds(first, value, y, i) || pieces[1].text == "y" && o.holds(first, x, value, i) {
				return true
			}
		}
		return false
	case "prev":
		return i > 0 && o.within(pieces, o.time(i-1, i)) && o.holds(first, x, y, i-1)
	case "next":
		return i+1 < len(o.stamps) && o.within(pieces, o.time(i, i+1)) && o.holds(first, x, y, i+1)
	case "once", "since", "unsince":
		for j := 0; j <= i; j++ {
			if o.within(pieces, o.time(j, i)) && o.holds(second, x, y, j) && o.passes(word, first, x, y, j+1, i) {
				return true
			}
		}
		return false
	case "soon", "until", "ununtil":
		for j := i; j < len(o.stamps); j++ {
			if o.within(pieces, o.time(i, j)) && o.holds(second, x, y, j) && o.passes(word, first, x, y, i, j-1) {
				return true
			}
		}
		return false
	}
	happening := word + "("
	for _, p := range pieces[open+1:] {
		switch p.text {
		case "x":
			happening += strconv.Itoa(x)
		case "y":
			happening += strconv.Itoa(y)
		default:
			happening += p.text
		}
	}
	return strings.Contains(o.happenings[i], " "+happening+" ")
}

func (o *truth) within(pieces []piece, time int) bool {
	low, _ := strconv.Atoi(pieces[2].text)
	high, err := strconv.Atoi(pieces[4].text)
	return low <= time && (err != nil || time <= high)
}

func (o *truth) passes(word string, pieces []piece, x int, y int, from int, to int) bool {
	for k := from; k <= to; k++ {
		switch word {
		case "since", "until":
			if !o.holds(pieces, x, y, k) {
				return false
			}
		case "unsince", "ununtil":
			if o.holds(pieces, x, y, k) {
				return false
			}
		}
	}
	return true
}

func (o *truth) answer(formula string, i int) api.Rel {
	pieces, _ := cutTokens(formula)
	free := look(pieces).free
	var set api.Rel
	for x := range 10 {
		for y := range 10 {
			if (x == 0 || free["x"]) && (y == 0 || free["y"]) && o.holds(pieces, x, y, i) {
				set = set.With(x, y)
			}
		}
	}
	return set
}

// settled tells how many points are: by the document each for itself.
func (o *truth) settled(reach int) int {
	count := 0
	for i := range o.stamps {
		if reach == -1 || o.time(i, len(o.stamps)-1) > reach {
			count++
		}
	}
	return count
}
