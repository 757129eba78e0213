package bus

// number: what frames and links are made of.
type number interface {
	~int | ~uint8
}

// isWithin: does a number lie from low to high?
func isWithin[N number](n, low, high N) bool {
	return n >= low && n <= high
}

// areWithin: do all of a list?
func areWithin[N number](list []N, low, high N) bool {
	for _, n := range list {
		if !isWithin(n, low, high) {
			return false
		}
	}
	return true
}
