package update

import (
	"cmp"
	"slices"

	"weft/addr"
	"weft/api"
	"weft/attr"
	"weft/nlri"
	"weft/octet"
)

// Flags of AReach and AUnreach.
const (
	optional = 128
	long     = 16 // the length stands in two bytes
)

// shortMost is the greatest length that stands in one byte.
const shortMost = 255

// Put answers the body that says what u says.
func Put(u api.Update) ([]byte, api.Errno) {
	if !isRight(u) {
		return nil, api.ErrArg
	}
	raws, e := rawsOf(u)
	if e != api.OK {
		return nil, e
	}
	joined, e := attr.Join(raws)
	if e != api.OK {
		return nil, e
	}
	if 2*lengthSize+len(joined) > api.MaxBody {
		return nil, api.ErrFull
	}
	return slices.Concat(number(0, lengthSize), number(len(joined), lengthSize), joined), api.OK
}

// isRight tells whether all but Attrs is right: those are attr.Write's to judge.
func isRight(u api.Update) bool {
	return areRight(u.Unreach) && areRight(u.Reach) && (len(u.Reach) == 0 || addr.RightIp(u.Next))
}

func areRight(l []api.Route) bool {
	return !slices.ContainsFunc(l, func(r api.Route) bool { return nlri.Right(r) != api.OK })
}

// rawsOf answers the attributes that say what u says, by rising kinds.
func rawsOf(u api.Update) ([]api.Raw, api.Errno) {
	var l []api.Raw
	if len(u.Reach) > 0 {
		written, e := attr.Write(u.Attrs)
		if e != api.OK {
			return nil, e
		}
		l = append(written, made(api.AReach, family(), nextBytes(u.Next), routeBytes(u.Reach)))
	}
	if len(u.Unreach) > 0 {
		l = append(l, made(api.AUnreach, family(), routeBytes(u.Unreach)))
	}
	slices.SortFunc(l, func(a, b api.Raw) int { return cmp.Compare(a.Kind, b.Kind) })
	return l, api.OK
}

// made answers the attribute whose value is the parts, one behind the other.
func made(kind int, parts ...[]byte) api.Raw {
	r := api.Raw{Flags: optional, Kind: kind, Value: slices.Concat(parts...)}
	if len(r.Value) > shortMost {
		r.Flags |= long
	}
	return r
}

func family() []byte {
	return append(number(familyKind, familyKindSize), familySub)
}

// nextBytes answers the next hop between its length and the byte 0 behind it.
func nextBytes(a api.Ip) []byte {
	size := addr.Bits(a) / 8
	return slices.Concat(number(size, 1), a.B[:size], number(0, 1))
}

// routeBytes answers right routes' bytes. Each is put by itself: nlri.Put copies all that stands ahead.
func routeBytes(l []api.Route) []byte {
	var out []byte
	for _, r := range l {
		b, _ := nlri.Put(nil, r)
		out = append(out, b...)
	}
	return out
}

// number answers n in size bytes; n is one that fits.
func number(n, size int) []byte {
	b, _ := octet.Put(nil, uint64(n), size)
	return b
}
