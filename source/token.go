package source

import (
	"strconv"
	"strings"

	"plantwright/api"
	"plantwright/cell"
)

// class is what a token is.
type class int

const (
	broken class = iota // it has a fault of its own
	ending              // the end of the text
	name
	mark // a reserved word or a sign
	number
	span // a time
)

// token: text is that of a name or mark, n the value of a number or span; it stands from at up to end.
type token struct {
	class class
	text  string
	n     int
	at    int
	end   int
	fault api.Errno
}

// scan finds the token at a place, or behind what stands between tokens there. It only keeps the fault of a token: one that stands ahead may be wrong as well, and is told first.
func scan(s string, at int) token {
	at, open := skip(s, at)
	switch {
	case open:
		return token{at: at, fault: api.ErrText}
	case at == len(s):
		return token{class: ending, at: at, end: at}
	case isDigit(s[at]):
		return scanNumber(s, at)
	case isLetter(s[at]):
		return scanWord(s, at)
	}
	return scanSign(s, at)
}

// skip goes behind blanks and comments; true: the comment there has no end.
func skip(s string, at int) (int, bool) {
	for at < len(s) {
		switch {
		case isBlank(s[at]):
			at++
		case strings.HasPrefix(s[at:], "(*"):
			inside := at + len("(*")
			length := strings.Index(s[inside:], "*)")
			if length < 0 {
				return at, true
			}
			at = inside + length + len("*)")
		case strings.HasPrefix(s[at:], "//"):
			length := strings.IndexAny(s[at:], "\n\r")
			if length < 0 {
				return len(s), false
			}
			at += length
		default:
			return at, false
		}
	}
	return at, false
}

func isBlank(c byte) bool {
	return c == ' ' || c == '\t' || c == '\n' || c == '\r'
}

func isDigit(c byte) bool {
	return c >= '0' && c <= '9'
}

// isLetter counts the line below as a letter: it stands wherever one may.
func isLetter(c byte) bool {
	return c >= 'a' && c <= 'z' || c >= 'A' && c <= 'Z' || c == '_'
}

// run finds the end of the letters and digits at a place.
func run(s string, at int, hash bool) int {
	for at < len(s) && (isLetter(s[at]) || isDigit(s[at]) || hash && s[at] == '#') {
		at++
	}
	return at
}

func scanWord(s string, at int) token {
	end := run(s, at, false)
	// The text of a tree shares no memory with the text that was handed in.
	text := strings.Clone(strings.ToLower(s[at:end]))
	t := token{class: name, text: text, at: at, end: end}
	switch {
	case (text == "t" || text == "time") && strings.HasPrefix(s[end:], "#"):
		return scanSpan(s, at)
	case len(text) > api.MaxName:
		t.class, t.fault = broken, api.ErrLong
	case isReserved(text):
		t.class = mark
	}
	return t
}

func scanSpan(s string, at int) token {
	end := run(s, at, true)
	n, fault := cell.Read(api.Time, s[at:end])
	return valued(token{class: span, n: n, at: at, end: end, fault: fault})
}

func scanNumber(s string, at int) token {
	end := run(s, at, true)
	n, fault := readNumber(s[at:end])
	return valued(token{class: number, n: n, at: at, end: end, fault: fault})
}

func valued(t token) token {
	if t.fault != api.OK {
		t.class = broken
	}
	return t
}

// readNumber leaves it to cell whether the form is right: only the range of a number in a text is wider than any kind's of cell.
func readNumber(s string) (int, api.Errno) {
	if _, fault := cell.Read(api.Word, s); fault == api.ErrLong || fault == api.ErrText {
		return 0, fault
	}
	base, digits := 10, s
	if before, after, ok := strings.Cut(s, "#"); ok {
		base, _ = strconv.Atoi(before)
		digits = after
	}
	n, err := strconv.ParseInt(strings.ReplaceAll(digits, "_", ""), base, 64)
	if err != nil || n > api.MaxNumber {
		return 0, api.ErrRange
	}
	return int(n), api.OK
}

func scanSign(s string, at int) token {
	for _, sign := range signs {
		if strings.HasPrefix(s[at:], sign) {
			return token{class: mark, text: sign, at: at, end: at + len(sign)}
		}
	}
	return token{at: at, fault: api.ErrText}
}
