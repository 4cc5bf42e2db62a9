package logline

import (
	"slices"
	"strings"
	"testing"

	"vigil/api"
	"vigil/token"
)

func named(name string) token.Word {
	var w token.Word
	copy(w[:], name)
	return w
}

func one(name string, digit int) Happening {
	return Happening{Name: named(name), Digits: [2]int{digit, 0}, Count: 1}
}

func two(name string, first int, second int) Happening {
	return Happening{Name: named(name), Digits: [2]int{first, second}, Count: 2}
}

func TestRead(t *testing.T) {
	for _, c := range []struct {
		text  string
		stamp api.Stamp
		want  []Happening
	}{
		{"@0", 0, nil},
		{"@7", 7, nil},
		{"@65535", 65535, nil},
		{"@59999", 59999, nil},
		{"@00000", 0, nil},
		{"@00042 p(3)", 42, []Happening{one("p", 3)}},
		{"@1 p(0) p(0,0)", 1, []Happening{one("p", 0), two("p", 0, 0)}},
		{"@1 q(9,8) a(7) z(1,2)", 1, []Happening{two("q", 9, 8), one("a", 7), two("z", 1, 2)}},
		{"@1 p(1) p(1)", 1, []Happening{one("p", 1), one("p", 1)}},
		{"@12345 abcdefgh(5)", 12345, []Happening{one("abcdefgh", 5)}},
		{"@1 x(1) true(2) until(3,4)", 1, []Happening{one("x", 1), one("true", 2), two("until", 3, 4)}},
	} {
		got, at, ok := Read(c.text)
		if !ok || at != 0 || got.Stamp != c.stamp || !slices.Equal(got.Happenings, c.want) {
			t.Errorf("P5: Read(%q) = %+v, %d, %v, want %d, %+v", c.text, got, at, ok, c.stamp, c.want)
		}
	}
}

func TestReadNoLine(t *testing.T) {
	for _, c := range []struct {
		text string
		at   int
	}{
		{"", 0}, {"0", 0}, {" @0", 0}, {"\x00", 0}, {"p(1)", 0}, {"@", 1}, {"@@1", 1}, {"@/", 1}, {"@:", 1}, {"@\x00", 1},
		{"@65536", 5}, {"@65540", 5}, {"@99999", 5}, {"@065536", 6}, {"@655350", 6}, {"@000000", 6}, {"@1/", 2}, {"@1:", 2},
		{"@1 ", 3}, {"@1\tp(1)", 2}, {"@1  p(1)", 3}, {"@1 `(1)", 3}, {"@1 {(1)", 3}, {"@1 A(1)", 3}, {"@1 9(1)", 3},
		{"@1 abcdefghi", 11}, {"@1 abcdefgh", 11}, {"@1 abcdefgh9(1)", 11}, {"@1 p[1]", 4}, {"@1 p(/)", 5}, {"@1 p(:)", 5}, {"@1 p( 1)", 5},
		{"@1 p(1, 2)", 7}, {"@1 p(1,,2)", 7}, {"@1 p(1,x)", 7}, {"@1 p(1,23)", 8}, {"@1 p(1,2,", 8}, {"@1 p(1;2)", 6}, {"@1 p(1]", 6},
		{"@1 p(1)\n", 7}, {"@1 p(1)@2", 7}, {"@1 p(1) ", 8}, {"@1 p(1) q", 9}, {"@1 p(1) q(", 10}, {"@1 p(1) q(2", 11}, {"@1 p(1) q(2,", 12},
	} {
		got, at, ok := Read(c.text)
		if ok || at != c.at || got.Stamp != 0 || got.Happenings != nil {
			t.Errorf("P5: Read(%q) = %+v, %d, %v, want the place %d", c.text, got, at, ok, c.at)
		}
	}
}

// What may stand at a place of a line, may be wrong at the next one: each byte at each place of one.
func TestReadAnyByte(t *testing.T) {
	const text = "@65535 abcdefgh(1,2) p(3)"
	allowed := []string{"@", "0123456789", "0123456789 ", "0123456789 ", "0123456789 ", "012345 ", " ",
		letters, letters + "(", letters + "(", letters + "(", letters + "(", letters + "(", letters + "(", letters + "(", "(",
		digits, "),", digits, ")", " ", letters, letters + "(", digits, "),"}
	for at := range text {
		for b := range 256 {
			spoiled := text[:at] + string([]byte{byte(b)})
			got, place, ok := Read(spoiled)
			want := at
			if strings.IndexByte(allowed[at], byte(b)) >= 0 {
				want = at + 1
			}
			if !ok && place != want || ok && want == at {
				t.Errorf("P5: Read(%q) = %+v, %d, %v, want the place %d or a line", spoiled, got, place, ok, want)
			}
		}
	}
}

const (
	letters = "abcdefghijklmnopqrstuvwxyz"
	digits  = "0123456789"
)
