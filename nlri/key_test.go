package nlri

import (
	"cmp"
	"encoding/hex"
	"math"
	"math/rand"
	"slices"
	"strings"
	"testing"

	"weft/addr"
	"weft/api"
)

func expectKey(t *testing.T, r api.Route, want string) {
	t.Helper()
	want = strings.ReplaceAll(want, " ", "")
	if got := Key(r); got != want {
		t.Errorf("Key(%+v) = %s, want %s", r, got, want)
	}
}

// P6.3: Key

func TestKey(t *testing.T) {
	const (
		rd   = "00010a0000010064"
		esi  = "0102030405060708090a"
		tag  = "01020304"
		mac  = "02005e1000ff"
		four = "0a010203000000000000000000000000"
		six  = "20010db8000000000000000000000009"
		none = "00000000000000000000000000000000"
	)
	keys := []string{
		"01" + rd + esi + tag,
		"02" + rd + tag + mac + "00" + none,
		"02" + rd + tag + mac + "00" + none,
		"02" + rd + tag + mac + "20" + four,
		"02" + rd + tag + mac + "20" + four,
		"02" + rd + tag + mac + "80" + six,
		"02" + rd + tag + mac + "80" + six,
		"03" + rd + tag + "20" + four,
		"03" + rd + tag + "80" + six,
		"04" + rd + esi + "20" + four,
		"04" + rd + esi + "80" + six,
		"05" + rd + tag + "0b" + "00" + "0a200000000000000000000000000000",
		"05" + rd + tag + "21" + "01" + "20010db8000000000000000000000000",
	}
	for i, s := range samples(t) {
		expectKey(t, s.r, keys[i])
	}
}

func TestKeyOfNothing(t *testing.T) {
	expectKey(t, api.Route{}, "00 0000000000000000")
	expectKey(t, api.Route{Kind: api.RSegment}, "01"+strings.Repeat("0", 44))
	expectKey(t, api.Route{Kind: api.RMac}, "02"+strings.Repeat("0", 70))
	expectKey(t, api.Route{Kind: api.RFlood}, "03"+strings.Repeat("0", 58))
	expectKey(t, api.Route{Kind: api.REs}, "04"+strings.Repeat("0", 70))
	expectKey(t, api.Route{Kind: api.RPrefix}, "05"+strings.Repeat("0", 60))
}

// Every byte is two small digits.
func TestKeyDigits(t *testing.T) {
	for n := range 256 {
		b := byte(n)
		r := api.Route{Kind: 9, Rd: api.Rd{0: b, 7: 255 - b}}
		expectKey(t, r, "09"+hex.EncodeToString(r.Rd[:]))
	}
}

// Of a kind that is none of the five, its lowest eight bits and the distinguisher are all.
func TestKeyOtherKinds(t *testing.T) {
	for _, kind := range otherKinds {
		want := hex.EncodeToString([]byte{byte(kind)}) + "00010a0000010064"
		expectKey(t, api.Route{Kind: kind, Rd: someRd}, want)
		for _, s := range samples(t) {
			s.r.Kind = kind
			expectKey(t, s.r, want)
		}
	}
}

// Routes that are not right have keys too; of a length the lowest eight bits count.
func TestKeyLengths(t *testing.T) {
	lengths := map[int]string{-1: "ff", 255: "ff", 256: "00", 257: "01", 256 + 32: "20", -256: "00", -128: "80", 1<<32 + 7: "07", math.MinInt: "00", math.MaxInt: "ff"}
	const zeros = "00000000000000000000000000000000"
	for n, digits := range lengths {
		p := api.Prefix{Len: n}
		expectKey(t, api.Route{Kind: api.RMac, Ip: p}, "02"+strings.Repeat("0", 36)+digits+zeros)
		expectKey(t, api.Route{Kind: api.RFlood, Ip: p}, "03"+strings.Repeat("0", 24)+digits+zeros)
		expectKey(t, api.Route{Kind: api.REs, Ip: p}, "04"+strings.Repeat("0", 36)+digits+zeros)
		expectKey(t, api.Route{Kind: api.RPrefix, Ip: p}, "05"+strings.Repeat("0", 24)+digits+"00"+zeros)
		p.Ip.V6 = true
		expectKey(t, api.Route{Kind: api.RPrefix, Ip: p}, "05"+strings.Repeat("0", 24)+digits+"01"+zeros)
	}
}

// All sixteen bytes of an address count, of IPv4 and beyond the length too.
func TestKeyOfAddressesThatAreNotRight(t *testing.T) {
	a := api.Ip{B: [16]byte{1, 2, 3, 4, 5, 6, 7, 8, 9, 10, 11, 12, 13, 14, 15, 16}}
	const digits = "0102030405060708090a0b0c0d0e0f10"
	p := api.Prefix{Ip: a, Len: 8}
	expectKey(t, api.Route{Kind: api.RMac, Ip: p}, "02"+strings.Repeat("0", 36)+"08"+digits)
	expectKey(t, api.Route{Kind: api.RFlood, Ip: p}, "03"+strings.Repeat("0", 24)+"08"+digits)
	expectKey(t, api.Route{Kind: api.REs, Ip: p}, "04"+strings.Repeat("0", 36)+"08"+digits)
	expectKey(t, api.Route{Kind: api.RPrefix, Ip: p}, "05"+strings.Repeat("0", 24)+"0800"+digits)
}

// keyFields are the fields that make a kind's key.
func keyFields(kind int) []string {
	switch kind {
	case api.RSegment:
		return []string{"Rd", "Esi", "Tag"}
	case api.RMac:
		return []string{"Rd", "Tag", "Mac", "Ip"}
	case api.RFlood:
		return []string{"Rd", "Tag", "Ip"}
	case api.REs:
		return []string{"Rd", "Esi", "Ip"}
	case api.RPrefix:
		return []string{"Rd", "Tag", "Ip"}
	}
	return []string{"Rd"}
}

// Two routes that differ in one field are one just where that field is no part of the key.
func TestKeyFieldByField(t *testing.T) {
	l := samples(t)
	l = append(l, sample{name: "another kind", r: api.Route{Kind: 9, Rd: someRd}})
	for _, s := range l {
		for _, f := range fields() {
			r := s.r
			f.set(&r)
			if r == s.r {
				t.Fatalf("%s: %s is not set", s.name, f.name)
			}
			isOne := !slices.Contains(keyFields(r.Kind), f.name)
			if (Key(r) == Key(s.r)) != isOne {
				t.Errorf("%s: %s: %s, %s", s.name, f.name, Key(r), Key(s.r))
			}
			if (Compare(r, s.r) == 0) != isOne || Compare(r, s.r) != -Compare(s.r, r) {
				t.Errorf("%s: %s: %d, %d", s.name, f.name, Compare(r, s.r), Compare(s.r, r))
			}
		}
	}
}

// Every single bit of a field that is part of the key tells routes apart.
func TestKeyBitByBit(t *testing.T) {
	for _, s := range samples(t) {
		turn := func(name string, b []byte, r *api.Route) {
			for bit := range 8 * len(b) {
				b[bit/8] ^= 128 >> (bit % 8)
				if (Key(*r) == Key(s.r)) == slices.Contains(keyFields(r.Kind), name) {
					t.Errorf("%s: %s, bit %d", s.name, name, bit)
				}
				b[bit/8] ^= 128 >> (bit % 8)
			}
		}
		r := s.r
		turn("Rd", r.Rd[:], &r)
		turn("Esi", r.Esi[:], &r)
		turn("Mac", r.Mac[:], &r)
		turn("Ip", r.Ip.Ip.B[:], &r)
		turn("Gw", r.Gw.B[:], &r)
		for bit := range 32 {
			r.Tag ^= 1 << bit
			if (Key(r) == Key(s.r)) == slices.Contains(keyFields(r.Kind), "Tag") {
				t.Errorf("%s: Tag, bit %d", s.name, bit)
			}
			r.Tag ^= 1 << bit
		}
		for bit := range 8 {
			r.Ip.Len ^= 1 << bit
			if (Key(r) == Key(s.r)) == slices.Contains(keyFields(r.Kind), "Ip") {
				t.Errorf("%s: Ip.Len, bit %d", s.name, bit)
			}
			r.Ip.Len ^= 1 << bit
		}
	}
}

// The family is part of a prefix's key alone: a whole address shows its own by its length.
func TestKeyFamilies(t *testing.T) {
	for _, kind := range []int{api.RSegment, api.RMac, api.RFlood, api.REs, api.RPrefix, 9} {
		four := api.Route{Kind: kind}
		six := four
		six.Ip.Ip.V6 = true
		if (Key(four) == Key(six)) != (kind != api.RPrefix) {
			t.Errorf("kind %d: %s, %s", kind, Key(four), Key(six))
		}
	}
}

// P6.3: Compare

func expectOrder(t *testing.T, a, b api.Route, want int) {
	t.Helper()
	if got := Compare(a, b); got != want {
		t.Errorf("Compare(%+v, %+v) = %d, want %d", a, b, got, want)
	}
}

func TestCompareByKind(t *testing.T) {
	for a := range 256 {
		for b := range 256 {
			expectOrder(t, api.Route{Kind: a}, api.Route{Kind: b}, cmp.Compare(a, b))
		}
	}
}

// A kind beyond a byte has the key with which that of its lowest eight bits begins.
func TestCompareWhereOneBeginsTheOther(t *testing.T) {
	for _, s := range samples(t) {
		short := s.r
		short.Kind += 256
		if !strings.HasPrefix(Key(s.r), Key(short)) || Key(s.r) == Key(short) {
			t.Fatalf("%s: %s, %s", s.name, Key(s.r), Key(short))
		}
		if Compare(short, s.r) != -1 || Compare(s.r, short) != 1 || Compare(short, short) != 0 {
			t.Errorf("%s: %d, %d", s.name, Compare(short, s.r), Compare(s.r, short))
		}
		bare := api.Route{Kind: s.r.Kind, Rd: s.r.Rd}
		if Compare(short, bare) != -1 || Compare(bare, short) != 1 {
			t.Errorf("%s: behind it nothing but 0: %d", s.name, Compare(short, bare))
		}
	}
	if Compare(api.Route{Kind: 257}, api.Route{Kind: 513}) != 0 || Compare(api.Route{Kind: -1}, api.Route{Kind: 255}) != 0 {
		t.Error("kinds with the same lowest eight bits")
	}
}

// The first byte that differs tells, and what stands ahead in the key tells ahead.
func TestCompareFirstByteTells(t *testing.T) {
	p := func(s string) api.Prefix { return prefix(t, s) }
	rising := [][]api.Route{
		{
			{Kind: api.RSegment},
			{Kind: api.RSegment, Tag: 1},
			{Kind: api.RSegment, Tag: 256},
			{Kind: api.RSegment, Tag: api.MaxTag},
			{Kind: api.RSegment, Esi: api.Esi{9: 1}},
			{Kind: api.RSegment, Esi: api.Esi{0: 9}, Tag: 5},
			{Kind: api.RSegment, Esi: api.Esi{0: 10}},
			{Kind: api.RSegment, Rd: api.Rd{7: 1}},
			{Kind: api.RSegment, Rd: api.Rd{0: 159}},
			{Kind: api.RSegment, Rd: api.Rd{0: 160}},
			{Kind: api.RMac},
		},
		{
			{Kind: api.RMac},
			{Kind: api.RMac, Ip: p("9.255.255.255/32")},
			{Kind: api.RMac, Ip: p("10.0.0.0/32")},
			{Kind: api.RMac, Ip: p("::/128")},
			{Kind: api.RMac, Ip: p("::1/128")},
			{Kind: api.RMac, Mac: api.Mac{5: 1}},
			{Kind: api.RMac, Mac: api.Mac{0: 1}},
			{Kind: api.RMac, Tag: 1},
			{Kind: api.RMac, Rd: api.Rd{7: 1}},
			{Kind: api.RFlood},
			{Kind: api.RFlood, Ip: p("0.0.0.0/32")},
			{Kind: api.RFlood, Ip: p("::/128")},
			{Kind: api.RFlood, Tag: 1},
			{Kind: api.REs},
			{Kind: api.REs, Ip: p("255.255.255.255/32")},
			{Kind: api.REs, Esi: api.Esi{9: 1}},
			{Kind: api.REs, Rd: api.Rd{7: 1}},
		},
		{
			{Kind: api.RPrefix},
			{Kind: api.RPrefix, Ip: api.Prefix{Ip: api.Ip{V6: true}}},
			{Kind: api.RPrefix, Ip: p("255.0.0.0/8")},
			{Kind: api.RPrefix, Ip: p("100::/8")},
			{Kind: api.RPrefix, Ip: p("0.0.0.0/9")},
			{Kind: api.RPrefix, Ip: p("::/9")},
			{Kind: api.RPrefix, Ip: p("::/10")},
			{Kind: api.RPrefix, Tag: 1},
			{Kind: api.RPrefix, Rd: api.Rd{7: 1}},
			{Kind: 6},
		},
	}
	for _, l := range rising {
		for i, a := range l {
			for j, b := range l {
				expectOrder(t, a, b, cmp.Compare(i, j))
			}
		}
	}
}

func TestCompareIsTheOrderOfKeys(t *testing.T) {
	rnd := rand.New(rand.NewSource(9))
	l := append(rightRoutes(t), api.Route{}, api.Route{Kind: 257}, api.Route{Kind: -3}, api.Route{Kind: math.MinInt, Tag: 9})
	for range 300 {
		r := randomRoute(rnd)
		r.Rd = api.Rd{7: byte(rnd.Intn(3))}
		l = append(l, r)
	}
	for _, a := range l {
		for _, b := range l {
			expectOrder(t, a, b, cmp.Compare(Key(a), Key(b)))
		}
	}
}

// Labels, gateways and, of cards and prefixes, segments don't make two routes of one.
func TestRoutesThatAreOne(t *testing.T) {
	a := api.Route{Kind: api.RMac, Rd: someRd, Esi: someEsi, Mac: someMac, Label: 1}
	b := api.Route{Kind: api.RMac, Rd: someRd, Mac: someMac, Label: 2, Label2: 3}
	if Key(a) != Key(b) || Compare(a, b) != 0 {
		t.Error("a card at another segment")
	}
	p := prefix(t, "10.0.0.0/8")
	c := api.Route{Kind: api.RPrefix, Rd: someRd, Ip: p, Gw: addr.Four(1), Label: 1}
	d := api.Route{Kind: api.RPrefix, Rd: someRd, Ip: p, Esi: someEsi}
	if Key(c) != Key(d) || Compare(c, d) != 0 {
		t.Error("a prefix over another gateway")
	}
}
