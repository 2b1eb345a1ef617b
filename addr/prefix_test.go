package addr

import (
	"math"
	"strings"
	"testing"

	"weft/api"
)

var oddLens = []int{math.MinInt, math.MinInt32, -129, -33, -32, -8, -1, 0, 1, 7, 8, 9, 31, 32, 33, 63, 64, 65, 127, 128, 129, 255, 256, 264, 1 << 32, 1<<32 + 8, math.MaxInt32, math.MaxInt - 1, math.MaxInt}

// bit tells the bit at of a, counted from the first one on.
func bit(a api.Ip, at int) byte {
	return a.B[at/8] >> (7 - at%8) & 1
}

func ones(v6 bool) api.Ip {
	a := api.Ip{V6: v6}
	for i := range Bits(a) / 8 {
		a.B[i] = 255
	}
	return a
}

func turned(a api.Ip, at int) api.Ip {
	a.B[at/8] ^= 128 >> (at % 8)
	return a
}

// P2.5

func TestCutKeepsJustTheFirstBits(t *testing.T) {
	for _, a := range append(rightIps(), ones(false), ones(true), six(0xa5c3, 0x5a3c, 0x1234, 0xfedc, 0x9999, 0x6666, 0xf00f, 0x0ff0), Four(0xa5c35a3c)) {
		for n := 0; n <= Bits(a); n++ {
			p, e := Cut(a, n)
			if e != api.OK || p.Len != n || p.Ip.V6 != a.V6 {
				t.Fatalf("Cut(%v, %d) = %v, %d", a, n, p, e)
			}
			for at := range 128 {
				want := byte(0)
				if at < n {
					want = bit(a, at)
				}
				if bit(p.Ip, at) != want {
					t.Fatalf("Cut(%v, %d) = %v", a, n, p)
				}
			}
		}
	}
}

func TestCutWrongArguments(t *testing.T) {
	for _, n := range oddLens {
		for _, a := range append(rightIps(), wrongIps()...) {
			p, e := Cut(a, n)
			right := RightIp(a) && n >= 0 && n <= Bits(a)
			if right != (e == api.OK) || !right && (e != api.ErrArg || p != (api.Prefix{})) {
				t.Errorf("Cut(%v, %d) = %v, %d", a, n, p, e)
			}
		}
	}
}

func TestRightPrefix(t *testing.T) {
	for _, n := range oddLens {
		for _, a := range []api.Ip{Four(0), six()} {
			if got := RightPrefix(api.Prefix{Ip: a, Len: n}); got != (n >= 0 && n <= Bits(a)) {
				t.Errorf("length %d of %v: %v", n, a, got)
			}
		}
		for _, a := range wrongIps() {
			if RightPrefix(api.Prefix{Ip: a, Len: n}) {
				t.Errorf("%v/%d is right", a, n)
			}
		}
	}
	for _, zero := range []api.Ip{Four(0), six()} {
		for at := range Bits(zero) {
			for n := 0; n <= Bits(zero); n++ {
				if got := RightPrefix(api.Prefix{Ip: turned(zero, at), Len: n}); got != (at < n) {
					t.Errorf("bit %d, length %d: %v", at, n, got)
				}
			}
		}
	}
}

func TestHas(t *testing.T) {
	for _, a := range []api.Ip{Four(0xa5c35a3c), ones(false), Four(0), ones(true), six(), six(0x2001, 0xdb8, 0, 0xa5c3, 0x5a3c, 0, 0, 1)} {
		for n := 0; n <= Bits(a); n++ {
			p, _ := Cut(a, n)
			if !Has(p, a) || !Has(p, p.Ip) {
				t.Fatalf("%v hasn't %v", p, a)
			}
			for at := range Bits(a) {
				if got := Has(p, turned(a, at)); got != (at >= n) {
					t.Fatalf("Has(%v, %v) = %v", p, turned(a, at), got)
				}
			}
		}
	}
}

func TestHasOfOneFamilyAndRightOnly(t *testing.T) {
	if Has(api.Prefix{Ip: Four(0)}, six()) || Has(api.Prefix{Ip: six()}, Four(0)) {
		t.Error("of two families")
	}
	for _, a := range wrongIps() {
		if Has(api.Prefix{Ip: Four(0)}, a) {
			t.Errorf("the address %v isn't right", a)
		}
		if Has(api.Prefix{Ip: a, Len: 8}, a) || Has(api.Prefix{Ip: a, Len: 32}, Four(0x0a000001)) {
			t.Errorf("the prefix's address %v isn't right", a)
		}
	}
	if Has(api.Prefix{Ip: Four(0x0a010000), Len: 8}, Four(0x0a010000)) {
		t.Error("bits behind the length")
	}
	for _, n := range oddLens {
		if got := Has(api.Prefix{Ip: Four(0), Len: n}, Four(0)); got != (n >= 0 && n <= 32) {
			t.Errorf("length %d: %v", n, got)
		}
		if got := Has(api.Prefix{Ip: six(), Len: n}, six()); got != (n >= 0 && n <= 128) {
			t.Errorf("length %d of IPv6: %v", n, got)
		}
	}
}

func TestPrefixTextAndBack(t *testing.T) {
	for s, p := range map[string]api.Prefix{
		"0.0.0.0/0":       {},
		"10.0.0.0/8":      {Ip: Four(0x0a000000), Len: 8},
		"10.128.0.0/9":    {Ip: Four(0x0a800000), Len: 9},
		"10.1.2.3/32":     {Ip: Four(0x0a010203), Len: 32},
		"0.0.0.0/32":      {Len: 32},
		"::/0":            {Ip: six()},
		"::/128":          {Ip: six(), Len: 128},
		"2001:db8::/32":   {Ip: six(0x2001, 0xdb8), Len: 32},
		"2001:db8::/33":   {Ip: six(0x2001, 0xdb8), Len: 33},
		"2001:db8::1/128": {Ip: six(0x2001, 0xdb8, 0, 0, 0, 0, 0, 1), Len: 128},
	} {
		if got, e := PrefixText(p); got != s || e != api.OK {
			t.Errorf("PrefixText(%v) = %q, %d; want %q", p, got, e, s)
		}
		if got, e := ParsePrefix(s); got != p || e != api.OK {
			t.Errorf("ParsePrefix(%q) = %v, %d", s, got, e)
		}
	}
}

func TestPrefixTextOfWrongOnes(t *testing.T) {
	list := []api.Prefix{{Ip: Four(0x0a010000), Len: 8}, {Ip: Four(1), Len: 31}, {Ip: Four(1)}, {Ip: six(1)}, {Ip: six(0, 0, 0, 0, 0, 0, 0, 1), Len: 127}, {Len: -1}, {Len: 33}, {Len: 128}, {Ip: six(), Len: -1}, {Ip: six(), Len: 129}, {Len: math.MaxInt}, {Len: math.MinInt}}
	for _, a := range wrongIps() {
		list = append(list, api.Prefix{Ip: a, Len: 32}, api.Prefix{Ip: a, Len: 128})
	}
	for _, p := range list {
		if s, e := PrefixText(p); s != "" || e != api.ErrArg {
			t.Errorf("PrefixText(%v) = %q, %d", p, s, e)
		}
	}
}

func TestParsePrefixTakesAnyFormOfItsAddress(t *testing.T) {
	want := api.Prefix{Ip: six(0x2001, 0xdb8), Len: 32}
	for _, s := range []string{"2001:db8::/32", "2001:DB8::/32", "2001:0db8:0:0:0:0:0:0/32", "2001:db8:0::0/32"} {
		if got, e := ParsePrefix(s); got != want || e != api.OK {
			t.Errorf("ParsePrefix(%q) = %v, %d", s, got, e)
		}
	}
}

func TestPrefixTextsThatAreNone(t *testing.T) {
	for _, s := range []string{
		"", "/", "//", "/0", "/8", "0/0", "10.0.0.0", "::", "10.0.0.0/", "::/", "10.0.0.0/8/", "10.0.0.0/8/8", "/10.0.0.0/8", "10.0.0.0//8", "10.0.0.0:8", "8/10.0.0.0",
		"10.1.0.0/8", "10.0.0.1/31", "128.0.0.0/0", "::1/127", "8000::/0", "2001:db8::/31x", "2001:db9::/31",
		"10.0.0.0/33", "10.0.0.0/128", "0.0.0.0/33", "::/129", "::/256", "0.0.0.0/18446744073709551616", "0.0.0.0/4294967296", "::/4294967296",
		"10.0.0.0/08", "10.0.0.0/00", "::/00", "::/0128", "10.0.0.0/+8", "10.0.0.0/-8", "10.0.0.0/ 8", "10.0.0.0 /8", "10.0.0.0/8 ", " 10.0.0.0/8", "10.0.0.0/a", "10.0.0.0/0x8", "10.0.0.0/255.0.0.0",
		"10.0.0/8", "010.0.0.0/8", "256.0.0.0/8", "1::2::/8", ":::/8", "g::/8", "::0.0.0.0/0", strings.Repeat("/", 5000), "10.0.0.0/" + strings.Repeat("8", 5000),
	} {
		if p, e := ParsePrefix(s); p != (api.Prefix{}) || e != api.ErrText {
			t.Errorf("ParsePrefix(%.60q) = %v, %d", s, p, e)
		}
	}
}

// P2.7

func TestPrefixesAreReadAgain(t *testing.T) {
	for _, a := range append(rightIps(), ones(false), ones(true)) {
		for n := 0; n <= Bits(a); n++ {
			p, _ := Cut(a, n)
			s, e := PrefixText(p)
			if e != api.OK {
				t.Fatalf("PrefixText(%v): error %d", p, e)
			}
			if got, e := ParsePrefix(s); got != p || e != api.OK {
				t.Fatalf("ParsePrefix(%q) = %v, %d", s, got, e)
			}
		}
	}
}

// The chapter's second example, as far as it speaks of prefixes.
func TestChapterExamplePrefixes(t *testing.T) {
	if p, e := Cut(Four(0x0a010203), 8); p != (api.Prefix{Ip: Four(0x0a000000), Len: 8}) || e != api.OK {
		t.Error(p, e)
	}
	if p, e := ParsePrefix("10.1.0.0/8"); p != (api.Prefix{}) || e != api.ErrText {
		t.Error(p, e)
	}
}
