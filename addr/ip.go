package addr

import (
	"bytes"
	"strings"

	"weft/api"
)

// RightIp tells whether a is of IPv6, or has nothing behind its first four bytes.
func RightIp(a api.Ip) bool {
	return a.V6 || a == Four(firstFour(a))
}

// Four answers the address of IPv4 whose bytes are n's, the highest first.
func Four(n uint32) api.Ip {
	return api.Ip{B: [16]byte{byte(n >> 24), byte(n >> 16), byte(n >> 8), byte(n)}}
}

// Number answers the number of an address of IPv4 that is right.
func Number(a api.Ip) (uint32, bool) {
	if a.V6 || !RightIp(a) {
		return 0, false
	}
	return firstFour(a), true
}

// Bits tells how many bits an address of a's family has.
func Bits(a api.Ip) int {
	if a.V6 {
		return 128
	}
	return 32
}

// CompareIp orders addresses: IPv4 ahead of IPv6, else byte by byte.
func CompareIp(a, b api.Ip) int {
	if a.V6 != b.V6 {
		if b.V6 {
			return -1
		}
		return 1
	}
	return bytes.Compare(a.B[:], b.B[:])
}

// IpText answers the text of an address that is right.
func IpText(a api.Ip) (string, api.Errno) {
	if !RightIp(a) {
		return "", api.ErrArg
	}
	if a.V6 {
		return sixText(a), api.OK
	}
	return fourText(a.B[:4]), api.OK
}

// ParseIp reads the text of an address of either family.
func ParseIp(s string) (api.Ip, api.Errno) {
	a, ok := readIp(s)
	if !ok {
		return api.Ip{}, api.ErrText
	}
	return a, api.OK
}

func readIp(s string) (api.Ip, bool) {
	if strings.Contains(s, ".") {
		return readFour(s)
	}
	return readSix(s)
}

func firstFour(a api.Ip) uint32 {
	return uint32(number(a.B[:4]))
}

func fourText(b []byte) string {
	parts := make([]string, len(b))
	for i, x := range b {
		parts[i] = Decimal(uint64(x))
	}
	return strings.Join(parts, ".")
}

func readFour(s string) (api.Ip, bool) {
	// One part more than is wanted tells that there are too many.
	parts := strings.SplitN(s, ".", 5)
	if len(parts) != 4 {
		return api.Ip{}, false
	}
	var a api.Ip
	for i, part := range parts {
		n, ok := Digits(part, 255)
		if !ok {
			return api.Ip{}, false
		}
		a.B[i] = byte(n)
	}
	return a, true
}
