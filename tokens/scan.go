package tokens

import (
	"strconv"
	"strings"

	"plantwright/api"
	"plantwright/cell"
)

// Class is what a token is.
type Class int

// The classes.
const (
	Broken Class = iota // it has a fault of its own
	Ending              // the end of the text
	Name
	Mark // a reserved word or a sign
	Number
	Span // a time
)

// Token: Text is that of a name or mark, N the value of a number or span; it stands from At up to End.
type Token struct {
	Class Class
	Text  string
	N     int
	At    int
	End   int
	Fault api.Errno
}

// scan finds the token at a place, or behind what stands between tokens there. It only keeps the fault of a token: one that stands ahead may be wrong as well, and is told first.
func scan(s string, at int) Token {
	at, open := skip(s, at)
	switch {
	case open:
		return Token{At: at, Fault: api.ErrText}
	case at == len(s):
		return Token{Class: Ending, At: at, End: at}
	case IsDigit(s[at]):
		return scanNumber(s, at)
	case IsLetter(s[at]):
		return scanWord(s, at)
	}
	return scanSign(s, at)
}

// skip goes behind blanks and comments; true: the comment there has no end.
func skip(s string, at int) (int, bool) {
	for at < len(s) {
		switch {
		case isBlank(s[at]):
			at++
		case strings.HasPrefix(s[at:], "(*"):
			inside := at + len("(*")
			length := strings.Index(s[inside:], "*)")
			if length < 0 {
				return at, true
			}
			at = inside + length + len("*)")
		case strings.HasPrefix(s[at:], "//"):
			length := strings.IndexAny(s[at:], "\n\r")
			if length < 0 {
				return len(s), false
			}
			at += length
		default:
			return at, false
		}
	}
	return at, false
}

func isBlank(c byte) bool {
	return c == ' ' || c == '\t' || c == '\n' || c == '\r'
}

// IsDigit: is this byte one of the ten digits?
func IsDigit(c byte) bool {
	return c >= '0' && c <= '9'
}

// IsLetter: is this byte a letter? It counts the line below as a letter: it stands wherever one may.
func IsLetter(c byte) bool {
	return c >= 'a' && c <= 'z' || c >= 'A' && c <= 'Z' || c == '_'
}

// run finds the end of the letters and digits at a place.
func run(s string, at int, hash bool) int {
	for at < len(s) && (IsLetter(s[at]) || IsDigit(s[at]) || hash && s[at] == '#') {
		at++
	}
	return at
}

func scanWord(s string, at int) Token {
	end := run(s, at, false)
	// The text of a tree shares no memory with the text that was handed in.
	text := strings.Clone(strings.ToLower(s[at:end]))
	t := Token{Class: Name, Text: text, At: at, End: end}
	switch {
	case (text == "t" || text == "time") && strings.HasPrefix(s[end:], "#"):
		return scanSpan(s, at)
	case len(text) > api.MaxName:
		t.Class, t.Fault = Broken, api.ErrLong
	case IsReserved(text):
		t.Class = Mark
	}
	return t
}

func scanSpan(s string, at int) Token {
	end := run(s, at, true)
	n, fault := cell.Read(api.Time, s[at:end])
	return valued(Token{Class: Span, N: n, At: at, End: end, Fault: fault})
}

func scanNumber(s string, at int) Token {
	end := run(s, at, true)
	n, fault := readNumber(s[at:end])
	return valued(Token{Class: Number, N: n, At: at, End: end, Fault: fault})
}

func valued(t Token) Token {
	if t.Fault != api.OK {
		t.Class = Broken
	}
	return t
}

// readNumber leaves it to cell whether the form is right: only the range of a number in a text is wider than any kind's of cell.
func readNumber(s string) (int, api.Errno) {
	if _, fault := cell.Read(api.Word, s); fault == api.ErrLong || fault == api.ErrText {
		return 0, fault
	}
	base, digits := 10, s
	if before, after, ok := strings.Cut(s, "#"); ok {
		base, _ = strconv.Atoi(before)
		digits = after
	}
	n, err := strconv.ParseInt(strings.ReplaceAll(digits, "_", ""), base, 64)
	if err != nil || n > api.MaxNumber {
		return 0, api.ErrRange
	}
	return int(n), api.OK
}

func scanSign(s string, at int) Token {
	for _, sign := range signs {
		if strings.HasPrefix(s[at:], sign) {
			return Token{Class: Mark, Text: sign, At: at, End: at + len(sign)}
		}
	}
	return Token{At: at, Fault: api.ErrText}
}
