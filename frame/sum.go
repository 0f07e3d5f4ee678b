package frame

// turned are the bits that a step turns, if the bits it compares aren't the
// same.
const turned = 0xEDB88320

// Sum tells the check sum of the bytes of all parts, one behind the other.
func Sum(parts ...[]byte) uint32 {
	register := ^uint32(0)
	for _, part := range parts {
		for _, b := range part {
			register = move(register, b)
		}
	}
	return ^register
}

// move tells the register behind b.
func move(register uint32, b byte) uint32 {
	// All of b's bits are turned in at once: each one gets to the lowest place
	// just when it is to be compared.
	register ^= uint32(b)
	for range 8 {
		// A product, not an if: that it can't be foretold makes an if some
		// four times as slow, and a store is summed whenever it is read.
		register = register>>1 ^ turned*(register%2)
	}
	return register
}
