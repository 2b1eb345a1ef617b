package update

import (
	"slices"

	"weft/addr"
	"weft/api"
	"weft/attr"
	"weft/nlri"
	"weft/octet"
)

// What a notification says of updates: its code, and the faults under it.
const (
	updateFault = 3
	badList     = 1
	badRoutes   = 9
)

// said is what AReach or AUnreach says.
type said struct {
	next   api.Ip
	routes []api.Route
	wrong  int // routes that were passed over as not right
}

// Read answers what the body says, the class of what is wrong with it, and the fault that a Reset is told by.
func Read(b []byte) (api.Update, int, api.Fault) {
	raws, is := split(b)
	if !is {
		return refused(api.Fault{Code: updateFault, Sub: badList})
	}
	attrs, class, fault := attr.Read(raws)
	if class == api.Reset {
		return refused(fault)
	}
	gone, is := saidBy(raws, api.AUnreach)
	if !is {
		return refused(faultOf(raws, api.AUnreach))
	}
	there, is := saidBy(raws, api.AReach)
	if !is {
		return refused(faultOf(raws, api.AReach))
	}
	class = max(class, classOf(raws, gone, there))
	return updateOf(attrs, gone, there, class), class, api.Fault{}
}

// split answers the attributes that stand in a body; false, if its lengths, or theirs, go beyond it.
func split(b []byte) ([]api.Raw, bool) {
	c := octet.New(b)
	c.Skip(int(c.Num(lengthSize)))
	joined := c.Take(int(c.Num(lengthSize)))
	if c.Err() != api.OK {
		return nil, false
	}
	l, e := attr.Split(joined)
	return l, e == api.OK
}

func refused(f api.Fault) (api.Update, int, api.Fault) {
	return api.Update{}, api.Reset, f
}

// faultOf answers the fault of an attribute whose routes can't be read.
func faultOf(l []api.Raw, kind int) api.Fault {
	at := attr.Place(l, kind)
	data, _ := attr.Join(l[at : at+1]) // it was split, so it can be joined
	return api.Fault{Code: updateFault, Sub: badRoutes, Data: data}
}

// saidBy answers what the attribute of that kind says: nothing, where there is none; false, if it is refused.
func saidBy(l []api.Raw, kind int) (said, bool) {
	at := attr.Place(l, kind)
	if at < 0 {
		return said{}, true
	}
	c := octet.New(l[at].Value)
	isOurs := readFamily(c)
	if c.Err() != api.OK {
		return said{}, false
	}
	if !isOurs {
		return said{}, true
	}
	var s said
	if kind == api.AReach {
		next, is := readNext(c)
		if !is {
			return said{}, false
		}
		s.next = next
	}
	return withRoutes(s, c.Take(c.Left()))
}

// withRoutes answers s with the routes that stand in b; false, if they are refused.
func withRoutes(s said, b []byte) (said, bool) {
	l, wrong, e := nlri.Read(b)
	s.routes, s.wrong = l, wrong
	return s, e == api.OK
}

// readFamily passes the family, and tells whether it is the one of these routes.
func readFamily(c *octet.Cursor) bool {
	kind, sub := c.Num(familyKindSize), c.Num(1)
	return kind == familyKind && sub == familySub
}

// readNext passes the next hop, its length, and the byte behind it; false, if it isn't as it must be.
func readNext(c *octet.Cursor) (api.Ip, bool) {
	var a api.Ip
	switch c.Num(1) {
	case 4:
		a = addr.Four(uint32(c.Num(4)))
	case 16:
		a.V6 = true
		copy(a.B[:], c.Take(16))
	default:
		return api.Ip{}, false
	}
	c.Skip(1)
	return a, c.Err() == api.OK
}

// classOf answers the class of what is wrong with the routes, and with what stands beside them.
func classOf(l []api.Raw, gone, there said) int {
	switch {
	case len(there.routes) > 0 && !standAll(l, api.AOrigin, api.APath, api.APref):
		return api.Withdraw
	case gone.wrong > 0 || there.wrong > 0:
		return api.Discard
	}
	return api.Fine
}

func standAll(l []api.Raw, kinds ...int) bool {
	return !slices.ContainsFunc(kinds, func(kind int) bool { return attr.Place(l, kind) < 0 })
}

// updateOf: routes whose attributes can't be trusted are told as unreached, so that no elder path of theirs is kept.
func updateOf(attrs api.Attrs, gone, there said, class int) api.Update {
	if class == api.Withdraw {
		return api.Update{Unreach: slices.Concat(gone.routes, there.routes)}
	}
	u := api.Update{Unreach: gone.routes}
	if len(there.routes) > 0 {
		u.Attrs, u.Next, u.Reach = attrs, there.next, there.routes
	}
	return u
}
