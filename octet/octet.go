// Package octet is layer 1: it converts integers to bytes and back, and rotates integers: see shared/doc/01-octet.md.
package octet

import "masthead/api"

// maxWidth is how many bytes the widest integer has.
const maxWidth = 8

// digits has each digit of Hex at the index of its value.
const digits = "0123456789abcdef"

// Little returns the width least significant bytes of n, least significant first; width is clamped to 0 and 8.
func Little(n uint64, width int) []byte {
	width = clampWidth(width)
	out := make([]byte, width)
	for i := range width {
		out[i] = byte(n >> (8 * i))
	}
	return out
}

// Great returns the width least significant bytes of n, most significant first; width is clamped to 0 and 8.
func Great(n uint64, width int) []byte {
	width = clampWidth(width)
	out := make([]byte, width)
	for i := range width {
		out[width-1-i] = byte(n >> (8 * i))
	}
	return out
}

// Num returns the integer of the first 8 bytes of b, or of all if there are fewer, least significant first.
func Num(b []byte) uint64 {
	var n uint64
	for i := range clampWidth(len(b)) {
		n |= uint64(b[i]) << (8 * i)
	}
	return n
}

// Big returns the integer of the first 8 bytes of b, or of all if there are fewer, most significant first.
func Big(b []byte) uint64 {
	var n uint64
	for i := range clampWidth(len(b)) {
		n = n<<8 | uint64(b[i])
	}
	return n
}

// Left32 returns x rotated left by k bits, k modulo 32.
func Left32(x uint32, k int) uint32 {
	s := k & 31 // not k % 32, which is negative for a negative k
	return x<<s | x>>(32-s)
}

// Right32 returns x rotated right by k bits, k modulo 32.
func Right32(x uint32, k int) uint32 {
	s := k & 31
	return x>>s | x<<(32-s)
}

// Left64 returns x rotated left by k bits, k modulo 64.
func Left64(x uint64, k int) uint64 {
	s := k & 63
	return x<<s | x>>(64-s)
}

// Hex returns two digits for each byte of b, its more significant half first.
func Hex(b []byte) string {
	out := make([]byte, 0, 2*len(b))
	for _, x := range b {
		out = append(out, digits[x>>4], digits[x&15])
	}
	return string(out)
}

// Unhex returns the bytes whose Hex is s, or ErrForm if there are none.
func Unhex(s string) ([]byte, api.Errno) {
	if len(s)%2 != 0 {
		return nil, api.ErrForm
	}
	out := make([]byte, len(s)/2)
	for i := range out {
		high, highOK := digitValue(s[2*i])
		low, lowOK := digitValue(s[2*i+1])
		if !highOK || !lowOK {
			return nil, api.ErrForm
		}
		out[i] = high<<4 | low
	}
	return out, api.OK
}

// Join returns the concatenation of its arguments, in memory of its own even if there is only one.
func Join(l ...[]byte) []byte {
	total := 0
	for _, b := range l {
		total += len(b)
	}
	out := make([]byte, 0, total)
	for _, b := range l {
		out = append(out, b...)
	}
	return out
}

func clampWidth(width int) int {
	return min(max(width, 0), maxWidth)
}

// digitValue returns the value of a digit of Hex; A to F are none, as Hex never writes them.
func digitValue(c byte) (byte, bool) {
	switch {
	case '0' <= c && c <= '9':
		return c - '0', true
	case 'a' <= c && c <= 'f':
		return c - 'a' + 10, true
	}
	return 0, false
}
