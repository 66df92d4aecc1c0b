// Package field: numbers as bytes, the highest byte first.
package field

import "math/bits"

// Unsigned is what a field may hold. (Plain uint is not here: how many bytes it has hangs on the machine.)
type Unsigned interface {
	~uint8 | ~uint16 | ~uint32 | ~uint64
}

func width[N Unsigned]() int { return bits.Len64(uint64(^N(0))) / 8 }

// Put appends a number in all the bytes that its type has.
func Put[N Unsigned](to []byte, n N) []byte { return PutLow(to, n, width[N]()) }

// PutLow appends the lowest bytes of a number, for fields of a size that no type has.
func PutLow[N Unsigned](to []byte, n N, size int) []byte {
	for k := size - 1; k >= 0; k-- {
		to = append(to, byte(uint64(n)>>(8*k)))
	}
	return to
}

// Take reads a number of as many bytes as its type has, and answers what stands behind it.
// There must be so many bytes.
func Take[N Unsigned](from []byte) (N, []byte) {
	size := width[N]()
	var n uint64
	for _, c := range from[:size] {
		n = n<<8 | uint64(c)
	}
	return N(n), from[size:]
}
