package nlri

import (
	"slices"

	"weft/addr"
	"weft/api"
	"weft/octet"
)

// How many bytes a number of a route stands in.
const (
	tagSize   = 4
	labelSize = 3
)

// macBits is the byte ahead of a card's name.
const macBits = 48

// Put answers b, and behind it r in bytes.
func Put(b []byte, r api.Route) ([]byte, api.Errno) {
	if e := Right(r); e != api.OK {
		return nil, e
	}
	body := bodyOf(r)
	return slices.Concat(b, []byte{byte(r.Kind), byte(len(body))}, body), api.OK
}

// bodyOf answers the bytes of a right route behind its kind and its length.
func bodyOf(r api.Route) []byte {
	rd, esi := r.Rd[:], r.Esi[:]
	tag, label := number(r.Tag, tagSize), number(r.Label, labelSize)
	length, ip := []byte{byte(r.Ip.Len)}, address(r.Ip.Ip)
	switch r.Kind {
	case api.RSegment:
		return slices.Concat(rd, esi, tag, label)
	case api.RMac:
		return slices.Concat(rd, esi, tag, []byte{macBits}, r.Mac[:], length, ip[:r.Ip.Len/8], label, second(r.Label2))
	case api.RFlood:
		return slices.Concat(rd, tag, length, ip)
	case api.REs:
		return slices.Concat(rd, esi, length, ip)
	}
	return slices.Concat(rd, esi, tag, length, ip, address(r.Gw), label)
}

// address answers as many bytes as an address of a's family has.
func address(a api.Ip) []byte {
	return a.B[:addr.Bits(a)/8]
}

// second answers the bytes of Label2, that stands there only if it says something.
func second(label uint32) []byte {
	if label == 0 {
		return nil
	}
	return number(label, labelSize)
}

// number answers n in size bytes; n is right, so it fits.
func number(n uint32, size int) []byte {
	b, _ := octet.Put(nil, uint64(n), size)
	return b
}
