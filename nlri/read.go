package nlri

import (
	"weft/api"
	"weft/octet"
)

// prefixSix is how many bytes an RPrefix of IPv6 has: nothing else in it tells the family.
const prefixSix = 58

// Read answers the routes that stand in b, and how many were passed over since they are not right.
func Read(b []byte) ([]api.Route, int, api.Errno) {
	var l []api.Route
	wrong := 0
	c := octet.New(b)
	for c.Left() > 0 {
		kind := int(c.Num(1))
		body := c.Take(int(c.Num(1)))
		if e := c.Err(); e != api.OK {
			return nil, 0, e
		}
		if !isKind(kind) {
			continue
		}
		if r, is := readRoute(kind, body); is {
			l = append(l, r)
		} else {
			wrong++
		}
	}
	return l, wrong, api.OK
}

// readRoute answers the route of a kind whose bytes body is; false, if they are not those of a right one.
func readRoute(kind int, body []byte) (api.Route, bool) {
	r := api.Route{Kind: kind}
	c := octet.New(body)
	is := readFields(c, &r)
	if !is || c.Err() != api.OK || c.Left() > 0 || Right(r) != api.OK {
		return api.Route{}, false
	}
	return r, true
}

// readFields fills in the fields of r's kind, and tells whether what stands there beside them is as it must be. The cursor keeps the error of bytes that are missing.
func readFields(c *octet.Cursor, r *api.Route) bool {
	isSix := c.Left() == prefixSix
	fill(c, r.Rd[:])
	if r.Kind != api.RFlood {
		fill(c, r.Esi[:])
	}
	if r.Kind != api.REs {
		r.Tag = uint32(c.Num(tagSize))
	}
	switch r.Kind {
	case api.RSegment:
		r.Label = readLabel(c)
	case api.RMac:
		return readMac(c, r)
	case api.RFlood, api.REs:
		r.Ip = readWhole(c)
	case api.RPrefix:
		readPrefix(c, r, isSix)
	}
	return true
}

// readMac reads what an RMac has behind its Tag, and tells whether the card's name is as long as it must be.
func readMac(c *octet.Cursor, r *api.Route) bool {
	bits := c.Num(1)
	fill(c, r.Mac[:])
	r.Ip = readWhole(c)
	r.Label = readLabel(c)
	if c.Left() > 0 {
		r.Label2 = readLabel(c)
	}
	return bits == macBits
}

// readPrefix reads what an RPrefix has behind its Tag.
func readPrefix(c *octet.Cursor, r *api.Route, isSix bool) {
	r.Ip.Len = int(c.Num(1))
	r.Ip.Ip = readIp(c, isSix)
	r.Gw = readIp(c, isSix)
	r.Label = readLabel(c)
}

// readWhole reads a length, and the address whose family the length tells. Behind any other length none is read: Right tells where that may be.
func readWhole(c *octet.Cursor) api.Prefix {
	p := api.Prefix{Len: int(c.Num(1))}
	switch p.Len {
	case 32:
		p.Ip = readIp(c, false)
	case 128:
		p.Ip = readIp(c, true)
	}
	return p
}

func readIp(c *octet.Cursor, isSix bool) api.Ip {
	a := api.Ip{V6: isSix}
	copy(a.B[:], c.Take(len(address(a))))
	return a
}

func readLabel(c *octet.Cursor) uint32 {
	return uint32(c.Num(labelSize))
}

// fill reads as many bytes as the field has, one by one: bytes that are missing are the cursor's error, and no panic.
func fill(c *octet.Cursor, field []byte) {
	for i := range len(field) {
		field[i] = byte(c.Num(1))
	}
}
