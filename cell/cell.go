// Package cell: values of five kinds: see the document's chapter.
package cell

import "plantwright/api"

// Fits: is n a value of the kind?
func Fits(k api.Kind, n int) bool {
	return isKind(k) && Wrap(k, n) == n
}

// Wrap: the value of the kind that n is modulo its width.
func Wrap(k api.Kind, n int) int {
	switch k {
	case api.Bool:
		return n & 1
	case api.Int:
		return int(int16(n))
	case api.Dint:
		return int(int32(n))
	case api.Word:
		return int(uint16(n))
	case api.Time:
		return int(uint32(n))
	}
	return 0
}

// Convert: a value of one kind as one of another.
func Convert(from, to api.Kind, n int) int {
	n = Wrap(from, n)
	if to == api.Bool && n != 0 {
		return 1
	}
	return Wrap(to, n)
}

// isKind keeps None out, too: it is the kind of what has none.
func isKind(k api.Kind) bool {
	return k >= api.Bool && k <= api.Time
}
