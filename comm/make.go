package comm

import (
	"math"

	"weft/api"
)

// MakeTarget answers the target of as and n, in the short form if as fits into it.
func MakeTarget(as, n uint32) (api.Comm, api.Errno) {
	switch {
	case as <= math.MaxUint16:
		return makeTarget(headShort, shortEnd, as, n), api.OK
	case n <= math.MaxUint16:
		return makeTarget(headLong, longEnd, as, n), api.OK
	}
	return api.Comm{}, api.ErrArg
}

// MakeMobility answers the community that tells how often a card has moved, and whether it sticks.
func MakeMobility(sticky bool, seq uint32) api.Comm {
	c := begin(headMobility)
	setFlag(&c, sticky)
	putNumber(c[seqAt:], seq)
	return c
}

// MakeLabel answers the community that tells a segment's label, and whether only a single router is open at a time.
func MakeLabel(single bool, label uint32) (api.Comm, api.Errno) {
	if label > api.MaxLabel {
		return api.Comm{}, api.ErrArg
	}
	c := begin(headLabel)
	setFlag(&c, single)
	putNumber(c[labelAt:], label)
	return c, api.OK
}

// MakeImport answers the community that tells who wants a segment's routes.
func MakeImport(m api.Mac) api.Comm {
	return makeMac(headImport, m)
}

// MakeRouter answers the community that tells a router's card.
func MakeRouter(m api.Mac) api.Comm {
	return makeMac(headRouter, m)
}

// MakeEncap answers the community that tells how packets are wrapped.
func MakeEncap(kind uint16) api.Comm {
	c := begin(headEncap)
	putNumber(c[encapAt:], uint32(kind))
	return c
}

func makeTarget(head uint32, end int, as, n uint32) api.Comm {
	c := begin(head)
	putNumber(c[bodyAt:end], as)
	putNumber(c[end:], n)
	return c
}

func makeMac(head uint32, m api.Mac) api.Comm {
	c := begin(head)
	copy(c[bodyAt:], m[:])
	return c
}

func begin(head uint32) api.Comm {
	var c api.Comm
	putNumber(c[:bodyAt], head)
	return c
}

func setFlag(c *api.Comm, on bool) {
	if on {
		c[bodyAt] |= flagBit
	}
}

// putNumber fills b with the lowest bytes of n, the highest of them first.
func putNumber(b []byte, n uint32) {
	for i := range b {
		b[len(b)-1-i] = byte(n)
		n >>= 8
	}
}
