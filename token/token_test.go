package token

import (
	"strings"
	"testing"
)

func TestWordsAndSigns(t *testing.T) {
	for _, c := range []struct {
		text string
		kind Kind
	}{
		{"x", X}, {"y", Y}, {"true", True}, {"and", And}, {"but", But}, {"or", Or}, {"exists", Exists},
		{"prev", Prev}, {"next", Next}, {"once", Once}, {"soon", Soon},
		{"since", Since}, {"unsince", Unsince}, {"until", Until}, {"ununtil", Ununtil},
		{"(", OpenRound}, {")", CloseRound}, {",", Comma}, {"[", OpenSquare}, {"]", CloseSquare}, {"*", Star},
	} {
		tokens, _, ok := Split(c.text)
		want := Token{Kind: c.kind, Size: len(c.text)}
		if !ok || len(tokens) != 2 || tokens[0] != want {
			t.Errorf("P3: Split(%q) = %+v, %v, want %+v", c.text, tokens, ok, want)
		}
	}
}

func TestNames(t *testing.T) {
	for _, name := range []string{"z", "xx", "xy", "tru", "truex", "nots", "prevs", "sinces", "abcdefgh"} {
		want := Token{Kind: Name, Size: len(name)}
		copy(want.Word[:], name)
		tokens, _, ok := Split(name)
		if !ok || len(tokens) != 2 || tokens[0] != want {
			t.Errorf("P3: Split(%q) = %+v, %v, want %+v", name, tokens, ok, want)
		}
	}
}

func TestNums(t *testing.T) {
	for _, c := range []struct {
		text  string
		value int
	}{{"0", 0}, {"9", 9}, {"10", 10}, {"007", 7}, {"000", 0}, {"999", 999}} {
		want := Token{Kind: Num, Size: len(c.text), Value: c.value}
		tokens, _, ok := Split(c.text)
		if !ok || len(tokens) != 2 || tokens[0] != want {
			t.Errorf("P3: Split(%q) = %+v, %v, want %+v", c.text, tokens, ok, want)
		}
	}
}

func TestPlaces(t *testing.T) {
	text := " p1x \n12ab( ,"
	tokens, _, ok := Split(text)
	want := []Token{{Kind: Name, At: 1}, {Kind: Num, At: 2}, {Kind: X, At: 3}, {Kind: Num, At: 6}, {Kind: Name, At: 8}, {Kind: OpenRound, At: 10}, {Kind: Comma, At: 12}, {Kind: End, At: 13}}
	if !ok || len(tokens) != len(want) {
		t.Fatalf("P3: Split(%q) = %+v, %v", text, tokens, ok)
	}
	for i := range want {
		if tokens[i].Kind != want[i].Kind || tokens[i].At != want[i].At {
			t.Errorf("P3: token %d of %q is %+v, want %+v", i, text, tokens[i], want[i])
		}
	}
}

func TestNoTokens(t *testing.T) {
	for _, text := range []string{"", " ", "\n", " \n \n"} {
		tokens, _, ok := Split(text)
		if !ok || len(tokens) != 1 || tokens[0] != (Token{Kind: End, At: len(text)}) {
			t.Errorf("P3: Split(%q) = %+v, %v", text, tokens, ok)
		}
	}
}

func TestBeginsNoToken(t *testing.T) {
	for _, c := range []struct {
		text string
		at   int
	}{
		{"1000", 0}, {"0000", 0}, {"  0000 1000", 2}, {"999 9999", 4}, {"a0001", 1},
		{"abcdefghi", 0}, {"abcdefgh abcdefghi", 9}, {"1abcdefghi", 1}, {"xxxxxxxxx!", 0}, {"!1000", 0},
		{strings.Repeat("a", 200), 0}, {strings.Repeat("1", 200), 0},
	} {
		tokens, at, ok := Split(c.text)
		if ok || tokens != nil || at != c.at {
			t.Errorf("P3: Split(%q) = %+v, %d, %v, want place %d", c.text, tokens, at, ok, c.at)
		}
	}
}

func TestEachByte(t *testing.T) {
	const begins = "abcdefghijklmnopqrstuvwxyz0123456789(),[]* \n"
	for b := 0; b < 256; b++ {
		right := strings.IndexByte(begins, byte(b)) >= 0
		_, at, ok := Split("( " + string([]byte{byte(b)}))
		if ok != right || !ok && at != 2 {
			t.Errorf("P3: byte %d: place %d, %v", b, at, ok)
		}
	}
}
