// Package token splits the text of a formula into tokens.
package token

import "vigil/api"

// Kind tells what a token is. Each word that has a meaning, and each sign, is a kind of its own.
type Kind int

const (
	End Kind = iota // not in the text: it stands behind the last token
	Num
	Name
	X
	Y
	True
	And
	But
	Or
	Exists
	Prev
	Next
	Once
	Soon
	Since
	Unsince
	Until
	Ununtil
	OpenRound
	CloseRound
	Comma
	OpenSquare
	CloseSquare
	Star
)

// maxDigits is how many digits MaxNumber has; leading zeros count, so the value alone would not tell.
const maxDigits = 3

// Word holds the letters of a NAME, with zeros behind them: a copy, so that the text itself is not kept.
type Word [api.MaxWord]byte

// Token is one token: Value is that of a Num, Word that of a Name.
type Token struct {
	Kind  Kind
	At    int
	Size  int
	Value int
	Word  Word
}

// Split tells the tokens of a text, with End behind them; or the place of the first byte that begins none, and false.
func Split(text string) ([]Token, int, bool) {
	var tokens []Token
	at := 0
	for at < len(text) {
		if isBlank(text[at]) {
			at++
			continue
		}
		size := sizeAt(text, at)
		if size == 0 {
			return nil, at, false
		}
		found := read(text[at : at+size])
		found.At = at
		tokens = append(tokens, found)
		at += size
	}
	tokens = append(tokens, Token{Kind: End, At: len(text)})
	return tokens, 0, true
}

// sizeAt tells how many bytes the token has that begins there: 0, if none does.
func sizeAt(text string, at int) int {
	digits := rowOfDigits(text, at)
	letters := rowOfLetters(text, at)
	switch {
	case digits > maxDigits || letters > api.MaxWord:
		return 0
	case digits > 0:
		return digits
	case letters > 0:
		return letters
	case at < len(text) && signKind(text[at]) != End:
		return 1
	}
	return 0
}

func rowOfDigits(text string, at int) int {
	size := 0
	for at+size < len(text) && IsDigit(text[at+size]) {
		size++
	}
	return size
}

func rowOfLetters(text string, at int) int {
	size := 0
	for at+size < len(text) && IsLetter(text[at+size]) {
		size++
	}
	return size
}

// read makes a token of bytes that are known to be just one.
func read(part string) Token {
	found := Token{Size: len(part)}
	switch {
	case len(part) == 0:
		return found
	case IsDigit(part[0]):
		found.Kind = Num
		found.Value = value(part)
	case IsLetter(part[0]):
		found.Kind = wordKind(part)
		if found.Kind == Name {
			found.Word = word(part)
		}
	default:
		found.Kind = signKind(part[0])
	}
	return found
}

func value(digits string) int {
	sum := 0
	for i := 0; i < len(digits); i++ {
		sum = 10*sum + int(digits[i]-'0')
	}
	return sum
}

func word(letters string) Word {
	var w Word
	for i := 0; i < len(letters) && i < len(w); i++ {
		w[i] = letters[i]
	}
	return w
}

func isBlank(b byte) bool {
	return b == ' ' || b == '\n'
}

// IsDigit: is it a digit, of a formula or of a line?
func IsDigit(b byte) bool {
	return b >= '0' && b <= '9'
}

// IsLetter: is it a letter of a word, in a formula or in a line?
func IsLetter(b byte) bool {
	return b >= 'a' && b <= 'z'
}

// signKind answers End for a byte that is no sign.
func signKind(b byte) Kind {
	switch b {
	case '(':
		return OpenRound
	case ')':
		return CloseRound
	case ',':
		return Comma
	case '[':
		return OpenSquare
	case ']':
		return CloseSquare
	case '*':
		return Star
	}
	return End
}

func wordKind(letters string) Kind {
	switch letters {
	case "x":
		return X
	case "y":
		return Y
	case "true":
		return True
	case "and":
		return And
	case "but":
		return But
	case "or":
		return Or
	case "exists":
		return Exists
	case "prev":
		return Prev
	case "next":
		return Next
	case "once":
		return Once
	case "soon":
		return Soon
	case "since":
		return Since
	case "unsince":
		return Unsince
	case "until":
		return Until
	case "ununtil":
		return Ununtil
	}
	return Name
}
