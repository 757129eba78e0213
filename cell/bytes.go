package cell

import "plantwright/api"

// Put: a value as bytes.
func Put(k api.Kind, n int) []byte {
	if !Fits(k, n) {
		return nil
	}
	b := make([]byte, size(k))
	for i := len(b) - 1; i >= 0; i-- {
		b[i] = byte(n)
		n >>= 8
	}
	return b
}

// Get: the value that bytes are.
func Get(k api.Kind, b []byte) (int, api.Errno) {
	if !isKind(k) {
		return 0, api.ErrKind
	}
	if len(b) != size(k) {
		return 0, api.ErrSize
	}
	n := 0
	for _, x := range b {
		n = n<<8 | int(x)
	}
	if k == api.Bool && n > 1 {
		return 0, api.ErrRange
	}
	// The highest bit of a kind with a sign is that sign.
	return Wrap(k, n), api.OK
}

// size of a value in bytes.
func size(k api.Kind) int {
	switch k {
	case api.Bool:
		return 1
	case api.Int, api.Word:
		return 2
	}
	return 4
}
