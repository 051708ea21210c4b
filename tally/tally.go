// Package tally is layer 1: a sum of bytes by which damaged bytes are told
// from whole ones. See shared/doc/01-tally.md.
package tally

const (
	// modulus is the greatest prime below 65536, so that each half of a sum
	// has room in 16 bits.
	modulus = 65521
	// half is where the upper half of a sum begins.
	half = 65536
	// ofNothing is the sum ahead of all bytes: A is 1, B is 0.
	ofNothing = 1
)

// Sum is the sum of all parts, one behind the other: callers that hold their
// bytes in pieces need not join them first.
func Sum(parts ...[]byte) uint32 {
	sum := uint32(ofNothing)
	for _, part := range parts {
		sum = More(sum, part)
	}
	return sum
}

// More is the sum with b behind the bytes that sum was made of. A sum may be
// read from a damaged place, so its halves need not be below the modulus.
func More(sum uint32, b []byte) uint32 {
	low := sum % half % modulus
	high := sum / half % modulus
	for _, x := range b {
		low = (low + uint32(x)) % modulus
		high = (high + low) % modulus
	}
	return high*half + low
}
