package retain

// polynomial of CRC-32, its highest power in the lowest bit.
const polynomial = 0xEDB88320

// sum: CRC-32.
func sum(b []byte) int {
	register := ^uint32(0)
	for _, x := range b {
		register ^= uint32(x)
		for range 8 {
			register = shifted(register)
		}
	}
	return int(^register)
}

func shifted(register uint32) uint32 {
	if register&1 == 1 {
		return register>>1 ^ polynomial
	}
	return register >> 1
}
