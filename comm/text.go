package comm

import (
	"weft/addr"
	"weft/api"
)

const hexDigits = "0123456789abcdef"

// Text answers a community's text.
func Text(c api.Comm) string {
	f := Read(c)
	switch f.Kind {
	case Target:
		return "rt " + asText(f) + ":" + decimal(f.N)
	case Mobility:
		return "mobility " + decimal(f.N) + flagText(f.Flag, "sticky")
	case Label:
		return "esi-label " + decimal(f.N) + flagText(f.Flag, "single")
	case Import:
		return "es-import " + addr.MacText(f.Mac)
	case Router:
		return "router " + addr.MacText(f.Mac)
	case Encap:
		return "encap " + decimal(f.N)
	}
	return "other " + hexText(c)
}

// asText writes a target's As so that no two forms are written alike.
func asText(f Fields) string {
	switch f.Form {
	case formIp:
		// An address made by Four is right, so there is no error to look at.
		s, _ := addr.IpText(addr.Four(f.As))
		return s
	case formLong:
		return decimal(f.As) + "L"
	}
	return decimal(f.As)
}

func flagText(on bool, word string) string {
	if on {
		return " " + word
	}
	return ""
}

func decimal(n uint32) string {
	return addr.Decimal(uint64(n))
}

func hexText(c api.Comm) string {
	out := make([]byte, 0, 2*len(c))
	for _, x := range c {
		out = append(out, hexDigits[x>>4], hexDigits[x&15])
	}
	return string(out)
}
