package attr

import (
	"weft/addr"
	"weft/api"
	"weft/octet"
)

// most is how many entries a list may have: APath counts its own in one byte.
const most = 255

// Write answers the attributes that say what a says.
func Write(a api.Attrs) ([]api.Raw, api.Errno) {
	if !isRight(a) {
		return nil, api.ErrArg
	}
	if len(a.Path) > most || len(a.Clusters) > most || len(a.Comms) > most {
		return nil, api.ErrFull
	}
	l := []api.Raw{
		made(api.AOrigin, number(a.Origin, 1)),
		made(api.APath, pathParts(a.Path)...),
	}
	if a.HasMed {
		l = append(l, made(api.AMed, number(a.Med, 4)))
	}
	l = append(l, made(api.APref, number(a.Pref, 4)))
	if a.Originator != 0 {
		l = append(l, made(api.AOriginator, number(a.Originator, 4)))
	}
	if len(a.Clusters) > 0 {
		l = append(l, made(api.AClusters, numbers(a.Clusters)...))
	}
	if len(a.Comms) > 0 {
		l = append(l, made(api.AComms, commParts(a.Comms)...))
	}
	if a.Pmsi.Kind != 0 {
		l = append(l, made(api.APmsi, pmsiParts(a.Pmsi)...))
	}
	return l, api.OK
}

func isRight(a api.Attrs) bool {
	return isOrigin(a.Origin) && isRightPmsi(a.Pmsi) && (a.HasMed || a.Med == 0)
}

func isRightPmsi(p api.Pmsi) bool {
	if !isByte(p.Kind) || p.Label > api.MaxLabel || !addr.RightIp(p.Ip) {
		return false
	}
	if p.Kind != pmsiAddress && p.Ip != (api.Ip{}) {
		return false
	}
	return p.Kind != 0 || p.Label == 0
}

// made answers the attribute of a known kind whose value is the parts, one behind the other.
func made(kind int, parts ...[]byte) api.Raw {
	k, _ := boundsOf(kind)
	r := api.Raw{Flags: k.flags, Kind: kind, Value: chain(parts...)}
	if len(r.Value) > shortMost {
		r.Flags |= long
	}
	return r
}

func pathParts(path []uint32) [][]byte {
	if len(path) == 0 {
		return nil
	}
	return append([][]byte{{pathSequence, byte(len(path))}}, numbers(path)...)
}

func commParts(l []api.Comm) [][]byte {
	parts := make([][]byte, 0, len(l))
	for _, c := range l {
		parts = append(parts, c[:])
	}
	return parts
}

func pmsiParts(p api.Pmsi) [][]byte {
	parts := [][]byte{{0}, number(p.Kind, 1), number(p.Label, 3)}
	if p.Kind == pmsiAddress {
		parts = append(parts, p.Ip.B[:addr.Bits(p.Ip)/8])
	}
	return parts
}

func numbers(l []uint32) [][]byte {
	parts := make([][]byte, 0, len(l))
	for _, n := range l {
		parts = append(parts, number(n, 4))
	}
	return parts
}

// number answers n in size bytes; n is right, so it fits.
func number[N int | uint32](n N, size int) []byte {
	b, _ := octet.Put(nil, uint64(n), size)
	return b
}
