package addr

import (
	"strings"

	"weft/api"
)

// Cut answers the prefix of the first n bits of a.
func Cut(a api.Ip, n int) (api.Prefix, api.Errno) {
	if !RightIp(a) || n < 0 || n > Bits(a) {
		return api.Prefix{}, api.ErrArg
	}
	return api.Prefix{Ip: firstBits(a, n), Len: n}, api.OK
}

// RightPrefix tells whether p's address and length are right, with no bits behind the length.
func RightPrefix(p api.Prefix) bool {
	return Has(p, p.Ip)
}

// Has tells whether p and a are right, of one family, and a begins with p's bits.
func Has(p api.Prefix, a api.Ip) bool {
	// What Cut answers is right and of a's family, so what equals it is too.
	cut, e := Cut(a, p.Len)
	return e == api.OK && cut == p
}

// PrefixText answers the text of a prefix that is right.
func PrefixText(p api.Prefix) (string, api.Errno) {
	if !RightPrefix(p) {
		return "", api.ErrArg
	}
	s, e := IpText(p.Ip)
	return s + "/" + Decimal(uint64(p.Len)), e
}

// ParsePrefix reads the text of a prefix that is right.
func ParsePrefix(s string) (api.Prefix, api.Errno) {
	head, tail, _ := strings.Cut(s, "/")
	a, e := ParseIp(head)
	n, ok := Digits(tail, uint64(Bits(a)))
	p := api.Prefix{Ip: a, Len: int(n)}
	if e != api.OK || !ok || !RightPrefix(p) {
		return api.Prefix{}, api.ErrText
	}
	return p, api.OK
}

// firstBits answers a with all bits behind the first n turned to 0.
func firstBits(a api.Ip, n int) api.Ip {
	for i := range a.B {
		stay := min(max(n-8*i, 0), 8)
		a.B[i] &^= byte(0xff) >> stay
	}
	return a
}
