package comm

import (
	"weft/api"
)

// The forms of targets, by what their As is.
const (
	formShort = 0 // two bytes, and four behind them
	formIp    = 1 // an address of IPv4, and two bytes
	formLong  = 2 // four bytes, and two
)

// The first two bytes of each kind, as one number.
const (
	headShort    = 0x0002
	headIp       = 0x0102
	headLong     = 0x0202
	headMobility = 0x0600
	headLabel    = 0x0601
	headImport   = 0x0602
	headRouter   = 0x0603
	headEncap    = 0x030c
)

// Where in a community what stands.
const (
	bodyAt   = 2
	shortEnd = 4
	longEnd  = 6
	seqAt    = 4
	labelAt  = 5
	encapAt  = 6
)

// flagBit is the one bit of a flag's byte that counts.
const flagBit = 1

// kindOf tells a community's kind and, of a target, its form.
func kindOf(c api.Comm) (kind, form int) {
	switch number(c[:bodyAt]) {
	case headShort:
		return Target, formShort
	case headIp:
		return Target, formIp
	case headLong:
		return Target, formLong
	case headMobility:
		return Mobility, 0
	case headLabel:
		return Label, 0
	case headImport:
		return Import, 0
	case headRouter:
		return Router, 0
	case headEncap:
		return Encap, 0
	}
	return Other, 0
}

func isOf(c api.Comm, kind int) bool {
	k, _ := kindOf(c)
	return k == kind
}
