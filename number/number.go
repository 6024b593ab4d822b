// Package number has the numbers of the formats as bytes, the lowest byte first. It stands beside the layers: those that have a format share it.
package number

const perByte = 8 // bits

// Unsigned are the numbers of the formats: the type tells how many bytes one takes.
type Unsigned interface{ uint16 | uint32 }

// Width tells how many bytes a number takes.
func Width[N Unsigned]() int {
	size := 0
	for rest := ^N(0); rest != 0; rest >>= perByte {
		size++
	}
	return size
}

// Fits tells whether each number of the list may be told by the bytes of one.
func Fits[N Unsigned](list ...int) bool {
	for _, n := range list {
		// Where an int is no wider than N, one below 0 comes back from N as it was.
		if n < 0 || int(N(n)) != n {
			return false
		}
	}
	return true
}

// Put writes the numbers one behind the other at the beginning of b, which must have room for them, and tells how many bytes they took.
func Put[N Unsigned](b []byte, list ...int) int {
	at := 0
	for _, n := range list {
		rest := N(n)
		for range Width[N]() {
			b[at] = byte(rest)
			rest >>= perByte
			at++
		}
	}
	return at
}

// Get reads the number at the beginning of b, which must have that many bytes.
func Get[N Unsigned](b []byte) int {
	var n N
	for i := range Width[N]() {
		n |= N(b[i]) << (perByte * i)
	}
	return int(n)
}

// All reads the numbers of which b is made; bytes behind the last whole one are passed over.
func All[N Unsigned](b []byte) []int {
	size := Width[N]()
	out := make([]int, len(b)/size)
	for i := range out {
		out[i] = Get[N](b[i*size:])
	}
	return out
}
