package attr

import (
	"weft/api"
	"weft/octet"
)

// Bits of the flags.
const (
	optional   = 128
	transitive = 64
	long       = 16 // the length stands in two bytes
)

// shortMost is the greatest length that stands in one byte.
const shortMost = 255

// Split answers the attributes that stand in b, one behind the other.
func Split(b []byte) ([]api.Raw, api.Errno) {
	var l []api.Raw
	c := octet.New(b)
	for c.Left() > 0 {
		r := next(c)
		if e := c.Err(); e != api.OK {
			return nil, e
		}
		l = append(l, r)
	}
	return l, api.OK
}

// Join answers the attributes' bytes, one behind the other.
func Join(l []api.Raw) ([]byte, api.Errno) {
	var out []byte
	for _, r := range l {
		b, e := bytesOf(r)
		if e != api.OK {
			return nil, e
		}
		out = append(out, b...)
	}
	return out, api.OK
}

// next reads the attribute at the cursor's place; the cursor keeps the error.
func next(c *octet.Cursor) api.Raw {
	flags := int(c.Num(1))
	kind := int(c.Num(1))
	length := int(c.Num(lengthSize(flags)))
	return api.Raw{Flags: flags, Kind: kind, Value: c.Take(length)}
}

func bytesOf(r api.Raw) ([]byte, api.Errno) {
	if !isByte(r.Flags) || !isByte(r.Kind) {
		return nil, api.ErrArg
	}
	length, e := octet.Put(nil, uint64(len(r.Value)), lengthSize(r.Flags))
	if e != api.OK {
		return nil, api.ErrFull // the size is right, so it is the length that has no room in it
	}
	return chain([]byte{byte(r.Flags), byte(r.Kind)}, length, r.Value), api.OK
}

func lengthSize(flags int) int {
	if flags&long != 0 {
		return 2
	}
	return 1
}

func isByte(n int) bool {
	return n >= 0 && n <= 255
}
