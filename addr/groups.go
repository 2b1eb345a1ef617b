package addr

import (
	"strconv"
	"strings"

	"weft/api"
)

const groupCount = 8

// groups are an address of IPv6 as its text parts it.
type groups [groupCount]uint16

func groupsOf(a api.Ip) groups {
	var g groups
	for i := range g {
		g[i] = uint16(number(a.B[2*i : 2*i+2]))
	}
	return g
}

func (g groups) ip() api.Ip {
	a := api.Ip{V6: true}
	for i, x := range g {
		a.B[2*i], a.B[2*i+1] = byte(x>>8), byte(x)
	}
	return a
}

// zerosFrom tells how many groups from the place at on are 0, one behind the other.
func (g groups) zerosFrom(at int) int {
	n := 0
	for at+n < len(g) && g[at+n] == 0 {
		n++
	}
	return n
}

// longestZeros answers the first of the longest runs of groups that are 0.
func (g groups) longestZeros() (from, count int) {
	for at := range g {
		// A later part of the same run is shorter, so only the beginnings of runs count.
		if n := g.zerosFrom(at); n > count {
			from, count = at, n
		}
	}
	return from, count
}

func sixText(a api.Ip) string {
	g := groupsOf(a)
	from, count := g.longestZeros()
	if count < 2 {
		return groupsText(g[:])
	}
	return groupsText(g[:from]) + "::" + groupsText(g[from+count:])
}

func groupsText(list []uint16) string {
	parts := make([]string, len(list))
	for i, x := range list {
		parts[i] = strconv.FormatUint(uint64(x), 16)
	}
	return strings.Join(parts, ":")
}

func readSix(s string) (api.Ip, bool) {
	// A second :: leaves an empty group in the tail, which readGroups refuses.
	head, tail, short := strings.Cut(s, "::")
	ahead, isAhead := readGroups(head)
	behind, isBehind := readGroups(tail)
	if !isAhead || !isBehind || !fill(len(ahead)+len(behind), short) {
		return api.Ip{}, false
	}
	var g groups
	copy(g[:], ahead)
	copy(g[len(g)-len(behind):], behind)
	return g.ip(), true
}

// fill tells whether count groups are as many as must be written: all of them, or, if :: stands for some, fewer.
func fill(count int, short bool) bool {
	if short {
		return count < groupCount
	}
	return count == groupCount
}

// readGroups reads what stands at one side of ::, where nothing may stand too.
func readGroups(s string) ([]uint16, bool) {
	if s == "" {
		return nil, true
	}
	// One part more than an address has tells that there are too many.
	parts := strings.SplitN(s, ":", groupCount+1)
	list := make([]uint16, len(parts))
	for i, part := range parts {
		n, ok := readGroup(part)
		if !ok {
			return nil, false
		}
		list[i] = n
	}
	return list, true
}

func readGroup(s string) (uint16, bool) {
	if len(s) < 1 || len(s) > 4 {
		return 0, false
	}
	n := uint16(0)
	for i := range len(s) {
		x, ok := hexValue(s[i])
		if !ok {
			return 0, false
		}
		n = n<<4 | uint16(x)
	}
	return n, true
}
