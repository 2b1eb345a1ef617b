package nlri

import (
	"slices"
	"strings"

	"weft/api"
)

const hexDigits = "0123456789abcdef"

// Key answers the text by which routes are told apart: those with the same key are one.
func Key(r api.Route) string {
	return hexText(keyOf(r))
}

// Compare orders routes by their keys.
func Compare(a, b api.Route) int {
	return strings.Compare(Key(a), Key(b))
}

// keyOf answers the bytes of r's key. A kind beyond a byte is none of the five, even if its lowest eight bits are.
func keyOf(r api.Route) []byte {
	head := slices.Concat([]byte{byte(r.Kind)}, r.Rd[:])
	esi, tag := r.Esi[:], number(r.Tag, tagSize)
	length, ip := []byte{byte(r.Ip.Len)}, r.Ip.Ip.B[:]
	switch r.Kind {
	case api.RSegment:
		return slices.Concat(head, esi, tag)
	case api.RMac:
		return slices.Concat(head, tag, r.Mac[:], length, ip)
	case api.RFlood:
		return slices.Concat(head, tag, length, ip)
	case api.REs:
		return slices.Concat(head, esi, length, ip)
	case api.RPrefix:
		return slices.Concat(head, tag, length, family(r.Ip.Ip), ip)
	}
	return head
}

// family tells apart the prefixes of both families, whose lengths and bytes may be the same.
func family(a api.Ip) []byte {
	if a.V6 {
		return []byte{1}
	}
	return []byte{0}
}

// hexText goes through a route's bytes and answers two digits for each.
func hexText(b []byte) string {
	text := make([]byte, 2*len(b))
	for i := range len(b) {
		text[2*i] = hexDigits[b[i]>>4]
		text[2*i+1] = hexDigits[b[i]&15]
	}
	return string(text)
}
