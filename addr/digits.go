package addr

import (
	"strconv"
)

const hexDigits = "0123456789abcdef"

// Decimal answers n in decimal digits.
func Decimal(n uint64) string {
	return strconv.FormatUint(n, 10)
}

// Digits answers the number that s is in decimal digits, if it isn't above most.
func Digits(s string, most uint64) (uint64, bool) {
	if s == "" || s[0] == '0' && len(s) > 1 {
		return 0, false
	}
	n := uint64(0)
	for i := range len(s) {
		if s[i] < '0' || s[i] > '9' {
			return 0, false
		}
		digit := uint64(s[i] - '0')
		// Asked ahead of the sum, which could go round.
		if digit > most || n > (most-digit)/10 {
			return 0, false
		}
		n = 10*n + digit
	}
	return n, true
}

// hexValue answers what a hexadecimal digit of either case counts.
func hexValue(c byte) (byte, bool) {
	switch {
	case c >= '0' && c <= '9':
		return c - '0', true
	case c >= 'a' && c <= 'f':
		return c - 'a' + 10, true
	case c >= 'A' && c <= 'F':
		return c - 'A' + 10, true
	}
	return 0, false
}

// number answers the number that stands in b, the highest byte first.
func number(b []byte) uint64 {
	n := uint64(0)
	for _, x := range b {
		n = n<<8 | uint64(x)
	}
	return n
}
