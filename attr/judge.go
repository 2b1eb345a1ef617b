package attr

import (
	"weft/api"
	"weft/octet"
)

// nextHop is a known kind that api has no name for: routes carry their next hop in AReach.
const nextHop = 3

// pmsiAddress is the kind of APmsi whose identifier is an address.
const pmsiAddress = 6

// pmsiHead is the length of APmsi's value ahead of the identifier.
const pmsiHead = 5

// pathSequence is the byte that APath's value begins with.
const pathSequence = 2

// bounds are the flags that a known kind must have, and the class of one that isn't right.
type bounds struct {
	kind, flags, class int
}

var known = [...]bounds{
	{api.AOrigin, transitive, api.Withdraw},
	{api.APath, transitive, api.Withdraw},
	{nextHop, transitive, api.Withdraw},
	{api.AMed, optional, api.Withdraw},
	{api.APref, transitive, api.Withdraw},
	{api.AAtomic, transitive, api.Discard},
	{api.AAggregator, optional | transitive, api.Discard},
	{api.AOriginator, optional, api.Withdraw},
	{api.AClusters, optional, api.Withdraw},
	{api.AReach, optional, api.Reset},
	{api.AUnreach, optional, api.Reset},
	{api.AComms, optional | transitive, api.Withdraw},
	{api.APmsi, optional | transitive, api.Withdraw},
}

// Judge tells how bad it is that the attribute is as it is.
func Judge(r api.Raw) int {
	k, is := boundsOf(r.Kind)
	if !is {
		return judgeUnknown(r.Flags)
	}
	if r.Flags&(optional|transitive) != k.flags || !isValue(r.Kind, r.Value) {
		return k.class
	}
	return api.Fine
}

// judgeUnknown: a kind that isn't known may only stand there if it is optional.
func judgeUnknown(flags int) int {
	if flags&optional == 0 {
		return api.Reset
	}
	return api.Fine
}

func boundsOf(kind int) (bounds, bool) {
	for _, k := range known {
		if k.kind == kind {
			return k, true
		}
	}
	return bounds{}, false
}

// isValue tells whether v is right for the known kind.
func isValue(kind int, v []byte) bool {
	switch kind {
	case api.AOrigin:
		return len(v) == 1 && isOrigin(int(v[0]))
	case api.APath:
		return isPath(v)
	case nextHop, api.AMed, api.APref:
		return len(v) == 4
	case api.AAtomic:
		return len(v) == 0
	case api.AAggregator:
		return len(v) == 8
	case api.AOriginator:
		return len(v) == 4 && octet.New(v).Num(4) != 0
	case api.AClusters:
		return len(v) > 0 && len(v)%4 == 0
	case api.AComms:
		return len(v) > 0 && len(v)%8 == 0
	case api.APmsi:
		return isPmsi(v)
	}
	return true // layer 7 looks at AReach and AUnreach
}

func isOrigin(n int) bool {
	return n >= 0 && n <= 2
}

func isPath(v []byte) bool {
	if len(v) == 0 {
		return true
	}
	if len(v) < 2 || v[0] != pathSequence || v[1] == 0 {
		return false
	}
	return len(v) == 2+4*int(v[1])
}

func isPmsi(v []byte) bool {
	if len(v) < pmsiHead {
		return false
	}
	identifier := len(v) - pmsiHead
	return v[1] != pmsiAddress || identifier == 4 || identifier == 16
}
