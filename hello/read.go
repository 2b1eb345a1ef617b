package hello

import (
	"slices"

	"weft/api"
	"weft/octet"
)

// faultSize is how many bytes a notification's body has ahead of its data.
const faultSize = 2

// Read answers what an open's body says; else the fault by which it is refused, and false.
func Read(b []byte) (api.Hello, api.Fault, bool) {
	switch {
	case len(b) < headSize:
		return refused(badForm)
	case b[0] != version:
		return refused(badVersion, 0, version)
	case len(b)-headSize != int(b[headSize-1]):
		return refused(badForm)
	}
	c := octet.New(b)
	c.Skip(1)
	h := api.Hello{
		As:   uint32(c.Num(asSize)),
		Hold: int(c.Num(holdSize)),
		Id:   uint32(c.Num(idSize)),
	}
	c.Skip(1)
	h, f, is := withParameters(h, c.Take(c.Left()))
	if !is {
		return api.Hello{}, f, false
	}
	return judged(h)
}

// ReadFault answers what a notification's body says.
func ReadFault(b []byte) (api.Fault, api.Errno) {
	if len(b) < faultSize {
		return api.Fault{}, api.ErrShort
	}
	return api.Fault{Code: int(b[0]), Sub: int(b[1]), Data: slices.Concat(b[faultSize:])}, api.OK
}

// ReadRefresh tells whether the body asks for all routes of the family again.
func ReadRefresh(b []byte) bool {
	if len(b) != len(family) {
		return false
	}
	for i, want := range family {
		if i != spare && b[i] != want {
			return false
		}
	}
	return true
}

// withParameters answers h with what the parameters say; else the fault of the first that is not as it must be, and false.
func withParameters(h api.Hello, b []byte) (api.Hello, api.Fault, bool) {
	c := octet.New(b)
	for c.Left() > 0 {
		kind, value, is := readPart(c)
		if !is {
			return refused(badForm)
		}
		if kind != capabilities {
			return refused(badParameter)
		}
		h, is = withCapabilities(h, value)
		if !is {
			return refused(badForm)
		}
	}
	return h, api.Fault{}, true
}

// withCapabilities answers h with what one parameter's capabilities say; false, if one is not as it must be.
func withCapabilities(h api.Hello, b []byte) (api.Hello, bool) {
	c := octet.New(b)
	for c.Left() > 0 {
		code, value, is := readPart(c)
		if !is {
			return api.Hello{}, false
		}
		switch code {
		case evpn:
			h.Evpn = h.Evpn || slices.Equal(value, familyBytes())
		case refresh:
			h.Refresh = h.Refresh || len(value) == 0
		case wide:
			if len(value) != wideSize {
				return api.Hello{}, false
			}
			h.Wide, h.As = true, uint32(octet.New(value).Num(wideSize))
		}
	}
	return h, true
}

// readPart passes a parameter or a capability; false, if it goes beyond what c goes through.
func readPart(c *octet.Cursor) (int, []byte, bool) {
	kind := int(c.Num(1))
	value := c.Take(int(c.Num(1)))
	return kind, value, c.Err() == api.OK
}

// judged answers h, unless what was read of it can't be.
func judged(h api.Hello) (api.Hello, api.Fault, bool) {
	switch {
	case h.As == 0:
		return refused(badAs)
	case h.Id == 0:
		return refused(badId)
	case h.Hold > 0 && h.Hold < leastHold:
		return refused(badHold)
	}
	return h, api.Fault{}, true
}

func refused(sub int, data ...byte) (api.Hello, api.Fault, bool) {
	return api.Hello{}, fault(sub, data...), false
}
