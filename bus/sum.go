package bus

// polynomial of the sum, its highest power in the lowest bit.
const polynomial = 0xA001

// sum: CRC-16 as it goes over a bus, each byte's lowest bit first.
func sum(b []byte) int {
	register := ^uint16(0)
	for _, x := range b {
		register ^= uint16(x)
		for range 8 {
			register = shifted(register)
		}
	}
	return int(register)
}

func shifted(register uint16) uint16 {
	if register&1 == 1 {
		return register>>1 ^ polynomial
	}
	return register >> 1
}
