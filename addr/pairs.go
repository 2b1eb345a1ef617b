package addr

import (
	"weft/api"
)

// MacText answers the text of a card's name.
func MacText(m api.Mac) string {
	return pairsText(m[:])
}

// ParseMac reads the text of a card's name.
func ParseMac(s string) (api.Mac, api.Errno) {
	var m api.Mac
	if !readPairs(s, m[:]) {
		return api.Mac{}, api.ErrText
	}
	return m, api.OK
}

// EsiText answers the text of a segment's name.
func EsiText(e api.Esi) string {
	return pairsText(e[:])
}

// ParseEsi reads the text of a segment's name.
func ParseEsi(s string) (api.Esi, api.Errno) {
	var e api.Esi
	if !readPairs(s, e[:]) {
		return api.Esi{}, api.ErrText
	}
	return e, api.OK
}

func pairsText(b []byte) string {
	out := make([]byte, 0, 3*len(b))
	for i, x := range b {
		if i > 0 {
			out = append(out, ':')
		}
		out = append(out, hexDigits[x>>4], hexDigits[x&15])
	}
	return string(out)
}

// readPairs fills into with the pairs that s is made of; where it answers false, what into holds is of no use.
func readPairs(s string, into []byte) bool {
	if len(s) != 3*len(into)-1 {
		return false
	}
	for i := range into {
		if i > 0 && s[3*i-1] != ':' {
			return false
		}
		high, isHigh := hexValue(s[3*i])
		low, isLow := hexValue(s[3*i+1])
		if !isHigh || !isLow {
			return false
		}
		into[i] = high<<4 | low
	}
	return true
}
