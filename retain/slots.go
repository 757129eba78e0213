package retain

import "plantwright/api"

// newest: what the newest of two slots says, which one it is, and its serial.
func newest(a, b []byte) (words []int, slot, serial int, e api.Errno) {
	words0, serial0, e0 := Read(a)
	words1, serial1, e1 := Read(b)
	switch {
	case e0 != api.OK && e1 != api.OK:
		return nil, 0, 0, api.ErrLost
	case e0 != api.OK, e1 == api.OK && isAhead(serial1, serial0):
		return words1, 1, serial1, api.OK
	}
	return words0, 0, serial0, api.OK
}

// isAhead: serials go round, so the shorter way from one to the other tells which comes first.
func isAhead(serial, other int) bool {
	way := uint32(serial - other)
	return way > 0 && way < 1<<31
}

// next: the slot into which the next record goes, and its serial.
func next(a, b []byte) (slot, serial int) {
	_, slot, serial, e := newest(a, b)
	if e != api.OK {
		return 0, 1
	}
	return 1 - slot, int(uint32(serial + 1))
}
