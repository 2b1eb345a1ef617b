package attr

import (
	"weft/addr"
	"weft/api"
	"weft/octet"
)

// What a notification says of attributes: its code, and the faults under it.
const (
	updateFault  = 3
	badList      = 1
	unknownKind  = 2
	wrongOfKnown = 4
)

// reader gathers what attributes say, one behind the other.
type reader struct {
	attrs api.Attrs
	class int
	fault api.Fault
	seen  [256]bool // known kinds that stood there, right or wrong
}

// Read answers what the attributes say together, the worst class of them, and the fault that a Reset is told by.
func Read(l []api.Raw) (api.Attrs, int, api.Fault) {
	var s reader
	for _, r := range l {
		s.read(r)
		if s.class == api.Reset {
			return api.Attrs{}, api.Reset, s.fault
		}
	}
	return s.attrs, s.class, api.Fault{}
}

func (s *reader) read(r api.Raw) {
	_, is := boundsOf(r.Kind)
	if is && s.seen[r.Kind] {
		s.readSecond(r.Kind)
		return
	}
	class := Judge(r)
	s.class = max(s.class, class)
	switch {
	case class == api.Reset:
		s.fault = faultOf(r, is)
	case is:
		s.seen[r.Kind] = true
		if class == api.Fine {
			s.keep(r.Kind, r.Value)
		}
	}
}

// readSecond: routes told twice can't be told apart, anything else is as its first one says.
func (s *reader) readSecond(kind int) {
	if kind == api.AReach || kind == api.AUnreach {
		s.class = api.Reset
		s.fault = api.Fault{Code: updateFault, Sub: badList}
		return
	}
	s.class = max(s.class, api.Discard)
}

func faultOf(r api.Raw, isKnown bool) api.Fault {
	f := api.Fault{Code: updateFault, Sub: unknownKind}
	if isKnown {
		f.Sub = wrongOfKnown
	}
	f.Data, _ = bytesOf(r) // no data, where there are no bytes of it
	return f
}

// keep takes what the right value of a known kind says.
func (s *reader) keep(kind int, v []byte) {
	a := &s.attrs
	c := octet.New(v)
	switch kind {
	case api.AOrigin:
		a.Origin = int(c.Num(1))
	case api.APath:
		c.Skip(2) // of an empty path there is nothing to skip, and nothing behind it
		a.Path = readNumbers(c)
	case api.AMed:
		a.HasMed, a.Med = true, uint32(c.Num(4))
	case api.APref:
		a.Pref = uint32(c.Num(4))
	case api.AOriginator:
		a.Originator = uint32(c.Num(4))
	case api.AClusters:
		a.Clusters = readNumbers(c)
	case api.AComms:
		a.Comms = readComms(c)
	case api.APmsi:
		a.Pmsi = readPmsi(c)
	}
}

// readNumbers reads all the numbers of four bytes that are left.
func readNumbers(c *octet.Cursor) []uint32 {
	var l []uint32
	for c.Left() >= 4 {
		l = append(l, uint32(c.Num(4)))
	}
	return l
}

// readComms reads all the communities that are left.
func readComms(c *octet.Cursor) []api.Comm {
	var l []api.Comm
	for c.Left() >= len(api.Comm{}) {
		l = append(l, api.Comm(c.Take(len(api.Comm{}))))
	}
	return l
}

func readPmsi(c *octet.Cursor) api.Pmsi {
	c.Skip(1)
	p := api.Pmsi{Kind: int(c.Num(1)), Label: uint32(c.Num(3))}
	switch p.Kind {
	case 0:
		return api.Pmsi{}
	case pmsiAddress:
		p.Ip = readIp(c)
	}
	return p
}

// readIp reads an address that goes to the end.
func readIp(c *octet.Cursor) api.Ip {
	if c.Left() == 4 {
		return addr.Four(uint32(c.Num(4)))
	}
	return api.Ip{V6: true, B: [16]byte(c.Take(16))}
}
