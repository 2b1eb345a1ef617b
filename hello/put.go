package hello

import (
	"slices"

	"weft/api"
	"weft/octet"
)

// Put answers an open's body that says what h says.
func Put(h api.Hello) ([]byte, api.Errno) {
	if !isRight(h) {
		return nil, api.ErrArg
	}
	l := parameters(h)
	return slices.Concat(
		number(version, 1),
		number(uint64(shortAs(h.As)), asSize),
		number(uint64(h.Hold), holdSize),
		number(uint64(h.Id), idSize),
		number(uint64(len(l)), 1),
		l,
	), api.OK
}

// PutFault answers a notification's body that says f.
func PutFault(f api.Fault) ([]byte, api.Errno) {
	if !isByte(f.Code) || !isByte(f.Sub) {
		return nil, api.ErrArg
	}
	if len(f.Data) > api.MaxBody-faultSize {
		return nil, api.ErrFull
	}
	return slices.Concat([]byte{byte(f.Code), byte(f.Sub)}, f.Data), api.OK
}

// PutRefresh answers the body by which all routes are asked for again.
func PutRefresh() []byte {
	return familyBytes()
}

func isRight(h api.Hello) bool {
	return h.As > 0 && (h.Wide || h.As <= maxShortAs) &&
		h.Id > 0 &&
		(h.Hold == 0 || h.Hold >= leastHold && h.Hold <= mostHold)
}

func isByte(n int) bool {
	return n >= 0 && n <= maxByte
}

// shortAs answers what stands for as where there are two bytes alone.
func shortAs(as uint32) uint32 {
	if as > maxShortAs {
		return standInAs
	}
	return as
}

// parameters answers the one parameter that has all capabilities of h; nothing, if it has none.
func parameters(h api.Hello) []byte {
	var l []byte
	if h.Evpn {
		l = append(l, part(evpn, familyBytes())...)
	}
	if h.Refresh {
		l = append(l, part(refresh, nil)...)
	}
	if h.Wide {
		l = append(l, part(wide, number(uint64(h.As), wideSize))...)
	}
	if len(l) == 0 {
		return nil
	}
	return part(capabilities, l)
}

// part answers a parameter or a capability: both are a byte that tells what it is, one with its length, and the value.
func part(kind byte, value []byte) []byte {
	return slices.Concat([]byte{kind, byte(len(value))}, value)
}

// number answers n in size bytes; n is one that fits.
func number(n uint64, size int) []byte {
	b, _ := octet.Put(nil, n, size)
	return b
}
