package addr

import (
	"math"
	"strings"

	"weft/api"
)

// The kinds of distinguishers, by what their first number is written as.
const (
	rdShort = 0 // two bytes, and four behind them
	rdIp    = 1 // an address of IPv4, and two bytes
	rdLong  = 2 // four bytes, and two
)

// RdText answers the text of a distinguisher of the three kinds.
func RdText(r api.Rd) (string, api.Errno) {
	switch number(r[:2]) {
	case rdShort:
		return Decimal(number(r[2:4])) + ":" + Decimal(number(r[4:])), api.OK
	case rdIp:
		return fourText(r[2:6]) + ":" + Decimal(number(r[6:])), api.OK
	case rdLong:
		return Decimal(number(r[2:6])) + "L:" + Decimal(number(r[6:])), api.OK
	}
	return "", api.ErrArg
}

// ParseRd reads the text of a distinguisher.
func ParseRd(s string) (api.Rd, api.Errno) {
	head, tail, _ := strings.Cut(s, ":")
	kind, first, isFirst := readFirst(head)
	last, isLast := Digits(tail, mostLast(kind))
	if !isFirst || !isLast {
		return api.Rd{}, api.ErrText
	}
	return makeRd(kind, first, last), api.OK
}

// RouterRd answers the distinguisher of a router's own thing n.
func RouterRd(id uint32, n int) (api.Rd, api.Errno) {
	if n < 0 || n > math.MaxUint16 {
		return api.Rd{}, api.ErrArg
	}
	return makeRd(rdIp, uint64(id), uint64(n)), api.OK
}

// readFirst reads what stands ahead of the : and tells by its form which kind it is of.
func readFirst(s string) (kind byte, first uint64, ok bool) {
	if strings.Contains(s, ".") {
		a, ok := readFour(s)
		return rdIp, uint64(firstFour(a)), ok
	}
	if digits, long := strings.CutSuffix(s, "L"); long {
		n, ok := Digits(digits, math.MaxUint32)
		return rdLong, n, ok
	}
	n, ok := Digits(s, math.MaxUint16)
	return rdShort, n, ok
}

// mostLast is the greatest last number of a kind.
func mostLast(kind byte) uint64 {
	if kind == rdShort {
		return math.MaxUint32
	}
	return math.MaxUint16
}

// makeRd lays both numbers, that fit into their kind's bytes, behind the kind.
func makeRd(kind byte, first, last uint64) api.Rd {
	both := first*(mostLast(kind)+1) + last
	r := api.Rd{1: kind}
	for i := range 6 {
		r[7-i] = byte(both >> (8 * i))
	}
	return r
}
