// Package chars: bytes of a text as ints, and the kinds of bytes that patterns and names are made of.
package chars

// None is what stands where a text has no byte: it equals no byte, so whoever wants one there finds none that fits.
const None = -1

// At is the byte at a place of a text, or None.
func At(text string, at int) int {
	if at < 0 || at >= len(text) {
		return None
	}
	return int(text[at])
}

// IsSmall tells whether c is a letter a to z.
func IsSmall(c int) bool {
	return c >= 'a' && c <= 'z'
}

// IsCapital tells whether c is a letter A to Z.
func IsCapital(c int) bool {
	return c >= 'A' && c <= 'Z'
}

// IsDigit tells whether c is a digit 0 to 9.
func IsDigit(c int) bool {
	return c >= '0' && c <= '9'
}

// IsPrinted tells whether c is a byte 32 to 126.
func IsPrinted(c int) bool {
	return c >= 32 && c <= 126
}
