// Package logline reads a line of a log: its stamp, and what happens there.
package logline

import (
	"vigil/api"
	"vigil/token"
)

const (
	maxStamp       = 65535
	maxStampDigits = 5 // leading zeros count, so the value alone would not tell
)

// Happening is one of a line: Count tells how many of its Digits there are, 1 or 2.
// Its name is held as that of an EVENT is, so that the two can be compared.
type Happening struct {
	Name   token.Word
	Digits [2]int
	Count  int
}

// Line is a line that is well built. Its happenings stand in the order of the text, and one may stand there twice.
type Line struct {
	Stamp      api.Stamp
	Happenings []Happening
}

// reader stands ahead of text[at]. No choice needs more than one byte to be seen,
// so where reading fails, that byte is the first with which no line begins.
type reader struct {
	text string
	at   int
}

// Read tells what a text says as a line; or the place of the first byte with which no line begins
// (the text's length, if it only lacks something at its end), and false.
func Read(text string) (Line, int, bool) {
	r := reader{text: text}
	if !r.take('@') {
		return Line{}, r.at, false
	}
	stamp, ok := r.stamp()
	if !ok {
		return Line{}, r.at, false
	}
	var happenings []Happening
	for r.at < len(text) {
		found, ok := r.happening()
		if !ok {
			return Line{}, r.at, false
		}
		happenings = append(happenings, found)
	}
	return Line{Stamp: stamp, Happenings: happenings}, 0, true
}

// stamp stops ahead of the digit with which the number would be above its bound, since that digit is the wrong one.
func (r *reader) stamp() (api.Stamp, bool) {
	sum := 0
	size := 0
	for size < maxStampDigits && token.IsDigit(r.here()) {
		more := 10*sum + int(r.here()-'0')
		if more > maxStamp {
			return 0, false
		}
		sum = more
		size++
		r.at++
	}
	return api.Stamp(sum), size > 0
}

func (r *reader) happening() (Happening, bool) {
	if !r.take(' ') {
		return Happening{}, false
	}
	name, ok := r.name()
	if !ok || !r.take('(') {
		return Happening{}, false
	}
	first, ok := r.digit()
	if !ok {
		return Happening{}, false
	}
	found := Happening{Name: name, Count: 1}
	found.Digits[0] = first
	if r.take(',') {
		second, ok := r.digit()
		if !ok {
			return Happening{}, false
		}
		found.Digits[1] = second
		found.Count = 2
	}
	if !r.take(')') {
		return Happening{}, false
	}
	return found, true
}

// name stops ahead of a letter beyond the bound: there no bracket can be taken, so that letter is the wrong one.
func (r *reader) name() (token.Word, bool) {
	var name token.Word
	size := 0
	for size < len(name) && token.IsLetter(r.here()) {
		name[size] = r.here()
		size++
		r.at++
	}
	return name, size > 0
}

func (r *reader) digit() (int, bool) {
	here := r.here()
	if !token.IsDigit(here) {
		return 0, false
	}
	r.at++
	return int(here - '0'), true
}

// take goes on by one byte if it is this one.
func (r *reader) take(b byte) bool {
	if r.here() != b {
		return false
	}
	r.at++
	return true
}

// here tells the next byte; behind the last one 0, which stands in no line.
func (r *reader) here() byte {
	if r.at < 0 || r.at >= len(r.text) {
		return 0
	}
	return r.text[r.at]
}
