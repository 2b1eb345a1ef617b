package addr

import (
	"strings"
	"testing"

	"weft/api"
)

// P2.2

var wrongPairs = []string{
	"", ":", "0", "00", "02:00:00:00:00", "02:00:00:00:00:0", "02:00:00:00:00:000", "2:00:00:00:00:00:0",
	"02:00:00:00:00:", ":02:00:00:00:00", "02:00:00:00:00:00:", ":02:00:00:00:00:00", "02:00:00:00:00:00:00",
	"02-00-00-00-00-00", "02.00.00.00.00.00", "02:00:00:00:00-00", "020000000000", "02:00:00:00::0000", "2:0:0:0:0:0",
	"0g:00:00:00:00:00", "g0:00:00:00:00:00", "0G:00:00:00:00:00", "00:00:00:00:00:0/", "00:00:00:00:00:0:", "00:00:00:00:00:0@", "00:00:00:00:00:`0",
	"+2:00:00:00:00:00", "0x:00:00:00:00:00", " 2:00:00:00:00:00", "02:00:00:00:00:0 ", "02:00:00:00:00:é", "02:00:00:00:00:0\x00", "02:00:00:00:00:\xff\xff",
	strings.Repeat("00:", 9), strings.Repeat("00:", 10), strings.Repeat("00:", 9) + "0", strings.Repeat("00:", 9) + "000", strings.Repeat("00:", 10) + "00",
	strings.Repeat("00-", 9) + "00", strings.Repeat("00:", 9) + "0g", strings.Repeat("00:", 8) + "00;00", strings.Repeat("00", 10), strings.Repeat(":", 29), strings.Repeat(":", 17),
	strings.Repeat("00:", 5000) + "00",
}

func TestMacText(t *testing.T) {
	for s, m := range map[string]api.Mac{
		"00:00:00:00:00:00": {},
		"02:00:00:00:00:ab": {2, 0, 0, 0, 0, 0xab},
		"01:23:45:67:89:ab": {1, 0x23, 0x45, 0x67, 0x89, 0xab},
		"cd:ef:f0:0f:10:09": {0xcd, 0xef, 0xf0, 0x0f, 0x10, 9},
		"ff:ff:ff:ff:ff:ff": {255, 255, 255, 255, 255, 255},
	} {
		if got := MacText(m); got != s {
			t.Errorf("MacText(%v) = %q, want %q", m, got, s)
		}
		for _, read := range []string{s, strings.ToUpper(s), s[:9] + strings.ToUpper(s[9:])} {
			if got, e := ParseMac(read); got != m || e != api.OK {
				t.Errorf("ParseMac(%q) = %v, %d", read, got, e)
			}
		}
	}
}

func TestEsiText(t *testing.T) {
	for s, x := range map[string]api.Esi{
		"00:00:00:00:00:00:00:00:00:00": {},
		"00:11:22:33:44:55:66:77:88:99": {0, 0x11, 0x22, 0x33, 0x44, 0x55, 0x66, 0x77, 0x88, 0x99},
		"aa:bb:cc:dd:ee:ff:a0:0b:c9:9d": {0xaa, 0xbb, 0xcc, 0xdd, 0xee, 0xff, 0xa0, 0x0b, 0xc9, 0x9d},
	} {
		if got := EsiText(x); got != s {
			t.Errorf("EsiText(%v) = %q, want %q", x, got, s)
		}
		for _, read := range []string{s, strings.ToUpper(s), s[:9] + strings.ToUpper(s[9:])} {
			if got, e := ParseEsi(read); got != x || e != api.OK {
				t.Errorf("ParseEsi(%q) = %v, %d", read, got, e)
			}
		}
	}
}

func TestWrongPairs(t *testing.T) {
	mac, esi := "00:00:00:00:00:00", "00:00:00:00:00:00:00:00:00:00"
	for _, s := range append([]string{esi}, wrongPairs...) {
		if m, e := ParseMac(s); m != (api.Mac{}) || e != api.ErrText {
			t.Errorf("ParseMac(%.60q) = %v, %d", s, m, e)
		}
	}
	for _, s := range append([]string{mac}, wrongPairs...) {
		if x, e := ParseEsi(s); x != (api.Esi{}) || e != api.ErrText {
			t.Errorf("ParseEsi(%.60q) = %v, %d", s, x, e)
		}
	}
}

// Each sign of a right text, turned into each other byte, is right just where that is a hexadecimal digit or the same sign.
func TestPairsWithOneSignTurned(t *testing.T) {
	const mac, esi = "a1:b2:c3:d4:e5:f6", "a1:b2:c3:d4:e5:f6:07:18:29:3a"
	isRight := func(at int, c byte) bool {
		if at%3 == 2 {
			return c == ':'
		}
		return strings.IndexByte("0123456789abcdefABCDEF", c) >= 0
	}
	for at := range esi {
		for c := range 256 {
			want := isRight(at, byte(c))
			s := esi[:at] + string([]byte{byte(c)}) + esi[at+1:]
			x, e := ParseEsi(s)
			if want != (e == api.OK) || want && EsiText(x) != strings.ToLower(s) || !want && x != (api.Esi{}) {
				t.Errorf("ParseEsi(%q) = %v, %d", s, x, e)
			}
			if at >= len(mac) {
				continue
			}
			s = mac[:at] + string([]byte{byte(c)}) + mac[at+1:]
			m, e := ParseMac(s)
			if want != (e == api.OK) || want && MacText(m) != strings.ToLower(s) || !want && m != (api.Mac{}) {
				t.Errorf("ParseMac(%q) = %v, %d", s, m, e)
			}
		}
	}
}

// P2.7

func TestPairsAreReadAgain(t *testing.T) {
	for x := range 256 {
		for at := range 10 {
			var m api.Mac
			m[at%6] = byte(x)
			if got, e := ParseMac(MacText(m)); got != m || e != api.OK {
				t.Errorf("%v: %v, %d", m, got, e)
			}
			var esi api.Esi
			esi[at] = byte(x)
			if got, e := ParseEsi(EsiText(esi)); got != esi || e != api.OK {
				t.Errorf("%v: %v, %d", esi, got, e)
			}
		}
	}
}
