package nlri

import (
	"math"
	"testing"

	"weft/addr"
	"weft/api"
)

var (
	someRd  = api.Rd{0, 1, 10, 0, 0, 1, 0, 100}
	someEsi = api.Esi{1, 2, 3, 4, 5, 6, 7, 8, 9, 10}
	someMac = api.Mac{2, 0, 94, 16, 0, 255}
)

const someTag = 0x01020304

func ip(t *testing.T, s string) api.Ip {
	t.Helper()
	a, e := addr.ParseIp(s)
	if e != api.OK {
		t.Fatalf("%s is no address", s)
	}
	return a
}

func prefix(t *testing.T, s string) api.Prefix {
	t.Helper()
	p, e := addr.ParsePrefix(s)
	if e != api.OK {
		t.Fatalf("%s is no prefix", s)
	}
	return p
}

// sample is a right route, and what stands behind its kind and length in bytes.
type sample struct {
	name string
	r    api.Route
	body []byte
}

func join(parts ...[]byte) []byte {
	var b []byte
	for _, p := range parts {
		b = append(b, p...)
	}
	return b
}

// framed answers a kind and a body as they stand in bytes.
func framed(kind int, body []byte) []byte {
	return join([]byte{byte(kind), byte(len(body))}, body)
}

// samples are routes of each kind, in each of the sizes that the chapter knows.
func samples(t *testing.T) []sample {
	t.Helper()
	rd := []byte{0, 1, 10, 0, 0, 1, 0, 100}
	esi := []byte{1, 2, 3, 4, 5, 6, 7, 8, 9, 10}
	tag := []byte{1, 2, 3, 4}
	mac := []byte{48, 2, 0, 94, 16, 0, 255}
	six := []byte{0x20, 1, 0x0d, 0xb8, 0, 0, 0, 0, 0, 0, 0, 0, 0, 0, 0, 9}
	net := []byte{0x20, 1, 0x0d, 0xb8, 0, 0, 0, 0, 0, 0, 0, 0, 0, 0, 0, 0}
	four4, six6 := prefix(t, "10.1.2.3/32"), prefix(t, "2001:db8::9/128")
	base := func(kind int) api.Route {
		return api.Route{Kind: kind, Rd: someRd, Esi: someEsi, Tag: someTag}
	}
	mac0 := base(api.RMac)
	mac0.Mac, mac0.Label = someMac, 0x0a0b0c
	mac4, mac6 := mac0, mac0
	mac4.Ip, mac6.Ip = four4, six6
	mac02, mac42, mac62 := mac0, mac4, mac6
	mac02.Label2, mac42.Label2, mac62.Label2 = 0x010000, 2, 0xfefdfc
	seg := base(api.RSegment)
	seg.Label = 0x0a0b0c
	net4 := base(api.RPrefix)
	net4.Ip, net4.Gw, net4.Label = prefix(t, "10.32.0.0/11"), ip(t, "10.9.8.7"), 5000
	net6 := net4
	net6.Ip, net6.Gw = prefix(t, "2001:db8::/33"), ip(t, "2001:db8::9")
	return []sample{
		{"segment", seg, join(rd, esi, tag, []byte{10, 11, 12})},
		{"card", mac0, join(rd, esi, tag, mac, []byte{0, 10, 11, 12})},
		{"card, two labels", mac02, join(rd, esi, tag, mac, []byte{0, 10, 11, 12, 1, 0, 0})},
		{"card, IPv4", mac4, join(rd, esi, tag, mac, []byte{32, 10, 1, 2, 3, 10, 11, 12})},
		{"card, IPv4, two labels", mac42, join(rd, esi, tag, mac, []byte{32, 10, 1, 2, 3, 10, 11, 12, 0, 0, 2})},
		{"card, IPv6", mac6, join(rd, esi, tag, mac, []byte{128}, six, []byte{10, 11, 12})},
		{"card, IPv6, two labels", mac62, join(rd, esi, tag, mac, []byte{128}, six, []byte{10, 11, 12, 254, 253, 252})},
		{"flood, IPv4", api.Route{Kind: api.RFlood, Rd: someRd, Tag: someTag, Ip: four4}, join(rd, tag, []byte{32, 10, 1, 2, 3})},
		{"flood, IPv6", api.Route{Kind: api.RFlood, Rd: someRd, Tag: someTag, Ip: six6}, join(rd, tag, []byte{128}, six)},
		{"router at a segment, IPv4", api.Route{Kind: api.REs, Rd: someRd, Esi: someEsi, Ip: four4}, join(rd, esi, []byte{32, 10, 1, 2, 3})},
		{"router at a segment, IPv6", api.Route{Kind: api.REs, Rd: someRd, Esi: someEsi, Ip: six6}, join(rd, esi, []byte{128}, six)},
		{"prefix, IPv4", net4, join(rd, esi, tag, []byte{11, 10, 32, 0, 0, 10, 9, 8, 7, 0, 19, 136})},
		{"prefix, IPv6", net6, join(rd, esi, tag, []byte{33}, net, six, []byte{0, 19, 136})},
	}
}

// edges are right routes at the bounds of their fields.
func edges(t *testing.T) []api.Route {
	t.Helper()
	zero, six := prefix(t, "0.0.0.0/32"), prefix(t, "::/128")
	high, high6 := prefix(t, "255.255.255.255/32"), prefix(t, "ffff:ffff:ffff:ffff:ffff:ffff:ffff:ffff/128")
	l := []api.Route{
		{Kind: api.RSegment}, {Kind: api.RSegment, Tag: api.MaxTag}, {Kind: api.RSegment, Label: api.MaxLabel},
		{Kind: api.RMac}, {Kind: api.RMac, Label: api.MaxLabel}, {Kind: api.RMac, Label2: api.MaxLabel}, {Kind: api.RMac, Label2: 1},
		{Kind: api.RPrefix}, {Kind: api.RPrefix, Gw: high.Ip}, {Kind: api.RPrefix, Label: api.MaxLabel},
		{Kind: api.RPrefix, Ip: api.Prefix{Ip: api.Ip{V6: true}}, Gw: api.Ip{V6: true}},
		{Kind: api.RPrefix, Ip: high6, Gw: high6.Ip, Tag: api.MaxTag, Esi: api.Esi{9: 1}},
		{Kind: api.RPrefix, Ip: high}, {Kind: api.RPrefix, Ip: zero},
	}
	for _, p := range []api.Prefix{zero, six, high, high6} {
		for _, kind := range []int{api.RMac, api.RFlood, api.REs} {
			l = append(l, api.Route{Kind: kind, Ip: p}, api.Route{Kind: kind, Rd: api.Rd{255, 255}, Ip: p})
		}
	}
	for n := range 129 {
		p, e := addr.Cut(high6.Ip, n)
		if e != api.OK {
			t.Fatal(n, e)
		}
		l = append(l, api.Route{Kind: api.RPrefix, Ip: p, Gw: api.Ip{V6: true}})
		if p, e = addr.Cut(high.Ip, n); e == api.OK {
			l = append(l, api.Route{Kind: api.RPrefix, Ip: p})
		}
	}
	return l
}

// rightRoutes are all the right routes of these tests.
func rightRoutes(t *testing.T) []api.Route {
	t.Helper()
	l := edges(t)
	for _, s := range samples(t) {
		l = append(l, s.r)
	}
	return l
}

// otherKinds are none of the five, some of which have their lowest eight bits.
var otherKinds = []int{
	math.MinInt, math.MinInt + 1, math.MinInt32, -512, -257, -256, -255, -254, -253, -252, -251, -250, -128, -6, -5, -4, -3, -2, -1, 0,
	6, 7, 8, 9, 10, 127, 128, 254, 255, 256, 257, 258, 259, 260, 261, 262, 511, 513, 65537, math.MaxInt32, 1<<32 + 1, 1<<32 + 5, 1<<56 + 2, math.MaxInt - 1, math.MaxInt,
}

// field sets one field of a route in one way.
type field struct {
	name string
	set  func(r *api.Route)
}

// fields are all fields of a route but its kind, each set to something that isn't 0, by each of its parts.
func fields() []field {
	return []field{
		{"Rd", func(r *api.Route) { r.Rd = api.Rd{7: 1} }},
		{"Esi", func(r *api.Route) { r.Esi = api.Esi{0: 1} }},
		{"Esi", func(r *api.Route) { r.Esi = api.Esi{9: 1} }},
		{"Tag", func(r *api.Route) { r.Tag = 1 }},
		{"Tag", func(r *api.Route) { r.Tag = api.MaxTag }},
		{"Mac", func(r *api.Route) { r.Mac = api.Mac{0: 1} }},
		{"Mac", func(r *api.Route) { r.Mac = api.Mac{5: 1} }},
		{"Ip", func(r *api.Route) { r.Ip = api.Prefix{Ip: addr.Four(1), Len: 32} }},
		{"Ip", func(r *api.Route) { r.Ip = api.Prefix{Ip: api.Ip{V6: true}, Len: 128} }},
		{"Gw", func(r *api.Route) { r.Gw = addr.Four(1) }},
		{"Label", func(r *api.Route) { r.Label = 1 }},
		{"Label", func(r *api.Route) { r.Label = api.MaxLabel }},
		{"Label2", func(r *api.Route) { r.Label2 = 1 }},
		{"Label2", func(r *api.Route) { r.Label2 = api.MaxLabel }},
	}
}

// fieldsOf are the fields that a kind has.
func fieldsOf(kind int) []string {
	switch kind {
	case api.RSegment:
		return []string{"Rd", "Esi", "Tag", "Label"}
	case api.RMac:
		return []string{"Rd", "Esi", "Tag", "Mac", "Ip", "Label", "Label2"}
	case api.RFlood:
		return []string{"Rd", "Tag", "Ip"}
	case api.REs:
		return []string{"Rd", "Esi", "Ip"}
	case api.RPrefix:
		return []string{"Rd", "Esi", "Tag", "Ip", "Gw", "Label"}
	}
	return nil
}

func has(kind int, name string) bool {
	for _, f := range fieldsOf(kind) {
		if f == name {
			return true
		}
	}
	return false
}

func expectRight(t *testing.T, r api.Route) {
	t.Helper()
	if e := Right(r); e != api.OK {
		t.Errorf("Right(%+v) = %d", r, e)
	}
}

// expectWrong holds both of Right and Put to the error.
func expectWrong(t *testing.T, r api.Route) {
	t.Helper()
	if e := Right(r); e != api.ErrArg {
		t.Errorf("Right(%+v) = %d", r, e)
	}
	for _, b := range [][]byte{nil, {}, {1, 2, 3}} {
		if got, e := Put(b, r); e != api.ErrArg || len(got) != 0 {
			t.Errorf("Put(% x, %+v) = % x, %d", b, r, got, e)
		}
	}
}

// P6.1: Right

func TestNamesOfKinds(t *testing.T) {
	for i, kind := range []int{api.RSegment, api.RMac, api.RFlood, api.REs, api.RPrefix} {
		if kind != i+1 {
			t.Errorf("the kind %d is %d", i+1, kind)
		}
	}
}

func TestRight(t *testing.T) {
	for _, r := range rightRoutes(t) {
		expectRight(t, r)
	}
}

func TestRightOtherKinds(t *testing.T) {
	for _, kind := range otherKinds {
		expectWrong(t, api.Route{Kind: kind})
		for _, s := range samples(t) {
			s.r.Kind = kind
			expectWrong(t, s.r)
		}
	}
	expectWrong(t, api.Route{})
}

func TestRightFieldsOfOtherKinds(t *testing.T) {
	for _, s := range samples(t) {
		for _, f := range fields() {
			if has(s.r.Kind, f.name) {
				continue
			}
			r := s.r
			f.set(&r)
			expectWrong(t, r)
		}
	}
}

func TestRightFieldsOfItsKind(t *testing.T) {
	for _, s := range samples(t) {
		for _, f := range fields() {
			if !has(s.r.Kind, f.name) || s.r.Kind == api.RPrefix && (f.name == "Ip" || f.name == "Gw") {
				continue
			}
			r := s.r
			f.set(&r)
			expectRight(t, r)
		}
	}
}

// Each part of Ip and Gw counts where the kind has no such field.
func TestRightPartsOfAddressesOfOtherKinds(t *testing.T) {
	seg := api.Route{Kind: api.RSegment}
	for _, p := range []api.Prefix{{Len: 1}, {Len: -1}, {Len: 256}, {Len: 32}, {Ip: api.Ip{V6: true}}, {Ip: api.Ip{B: [16]byte{1}}}, {Ip: api.Ip{B: [16]byte{15: 1}}}} {
		r := seg
		r.Ip = p
		expectWrong(t, r)
	}
	whole := prefix(t, "10.0.0.1/32")
	for _, a := range []api.Ip{{V6: true}, {B: [16]byte{1}}, {B: [16]byte{3: 1}}, {B: [16]byte{15: 1}}} {
		for _, kind := range []int{api.RMac, api.RFlood, api.REs} {
			expectWrong(t, api.Route{Kind: kind, Ip: whole, Gw: a})
		}
		expectWrong(t, api.Route{Kind: api.RSegment, Gw: a})
		expectWrong(t, api.Route{Kind: api.RMac, Gw: a})
	}
}

func TestRightLabels(t *testing.T) {
	beyond := []uint32{api.MaxLabel + 1, api.MaxLabel + 2, 1 << 25, 1 << 31, math.MaxUint32}
	for _, n := range beyond {
		for _, kind := range []int{api.RSegment, api.RMac, api.RPrefix} {
			expectWrong(t, api.Route{Kind: kind, Label: n})
		}
		expectWrong(t, api.Route{Kind: api.RMac, Label2: n})
		expectWrong(t, api.Route{Kind: api.RMac, Label: n, Label2: n})
		expectWrong(t, api.Route{Kind: api.RMac, Label: 1, Label2: n})
	}
	for _, n := range []uint32{0, 1, 255, 256, 65536, api.MaxLabel - 1, api.MaxLabel} {
		for _, kind := range []int{api.RSegment, api.RMac, api.RPrefix} {
			expectRight(t, api.Route{Kind: kind, Label: n})
		}
		expectRight(t, api.Route{Kind: api.RMac, Label2: n})
		expectRight(t, api.Route{Kind: api.RMac, Label: api.MaxLabel, Label2: n})
	}
}

var oddLengths = []int{math.MinInt, -256 + 32, -224, -128, -32, -1, 1, 8, 24, 31, 33, 64, 127, 129, 255, 256, 256 + 32, 256 + 128, 1<<32 + 32, math.MaxInt}

func TestRightWholeAddresses(t *testing.T) {
	four, six := addr.Four(0x0a010203), ip(t, "2001:db8::9")
	for _, kind := range []int{api.RMac, api.RFlood, api.REs} {
		expectRight(t, api.Route{Kind: kind, Ip: api.Prefix{Ip: four, Len: 32}})
		expectRight(t, api.Route{Kind: kind, Ip: api.Prefix{Ip: six, Len: 128}})
		expectWrong(t, api.Route{Kind: kind, Ip: api.Prefix{Ip: four, Len: 128}})
		expectWrong(t, api.Route{Kind: kind, Ip: api.Prefix{Ip: six, Len: 32}})
		for _, n := range append([]int{0}, oddLengths...) {
			for _, a := range []api.Ip{four, six, {V6: true}} {
				expectWrong(t, api.Route{Kind: kind, Ip: api.Prefix{Ip: a, Len: n}})
			}
		}
		for _, n := range oddLengths {
			expectWrong(t, api.Route{Kind: kind, Ip: api.Prefix{Len: n}})
		}
		// The same address cut short is a prefix that is right, but no whole address.
		for _, s := range []string{"10.0.0.0/8", "0.0.0.0/1", "::/127", "2001:db8::/32", "10.1.2.2/31"} {
			expectWrong(t, api.Route{Kind: kind, Ip: prefix(t, s)})
		}
	}
}

// Only a card may be without an address.
func TestRightWithoutAddress(t *testing.T) {
	expectRight(t, api.Route{Kind: api.RMac, Mac: someMac})
	expectWrong(t, api.Route{Kind: api.RFlood, Rd: someRd})
	expectWrong(t, api.Route{Kind: api.REs, Rd: someRd, Esi: someEsi})
	for _, kind := range []int{api.RMac, api.RFlood, api.REs} {
		expectWrong(t, api.Route{Kind: kind, Ip: api.Prefix{Ip: api.Ip{V6: true}}})
		expectWrong(t, api.Route{Kind: kind, Ip: api.Prefix{Ip: addr.Four(1)}})
		expectWrong(t, api.Route{Kind: kind, Ip: api.Prefix{Ip: api.Ip{B: [16]byte{15: 1}}}})
	}
}

func TestRightAddressesThatAreNot(t *testing.T) {
	for i := 4; i < 16; i++ {
		wrong := addr.Four(0x0a010203)
		wrong.B[i] = 1
		for _, kind := range []int{api.RMac, api.RFlood, api.REs, api.RPrefix} {
			expectWrong(t, api.Route{Kind: kind, Ip: api.Prefix{Ip: wrong, Len: 32}})
		}
		expectWrong(t, api.Route{Kind: api.RPrefix, Ip: prefix(t, "10.0.0.0/8"), Gw: wrong})
		expectWrong(t, api.Route{Kind: api.RPrefix, Gw: wrong})
	}
}

func TestRightPrefixes(t *testing.T) {
	none6 := api.Ip{V6: true}
	for n := range 33 {
		for bit := range 32 {
			p := api.Prefix{Ip: addr.Four(1 << (31 - bit)), Len: n}
			r := api.Route{Kind: api.RPrefix, Ip: p}
			if bit < n {
				expectRight(t, r)
			} else {
				expectWrong(t, r)
			}
		}
	}
	for _, n := range []int{0, 1, 7, 8, 9, 31, 32, 33, 64, 127, 128} {
		for bit := range 128 {
			a := none6
			a.B[bit/8] = 128 >> (bit % 8)
			r := api.Route{Kind: api.RPrefix, Ip: api.Prefix{Ip: a, Len: n}, Gw: none6}
			if bit < n {
				expectRight(t, r)
			} else {
				expectWrong(t, r)
			}
		}
	}
	for _, n := range []int{math.MinInt, -256, -1, 33, 34, 64, 128, 129, 255, 256, 256 + 8, 1 << 32, math.MaxInt} {
		expectWrong(t, api.Route{Kind: api.RPrefix, Ip: api.Prefix{Len: n}})
		if n != 33 && n != 34 && n != 64 && n != 128 {
			expectWrong(t, api.Route{Kind: api.RPrefix, Ip: api.Prefix{Ip: none6, Len: n}, Gw: none6})
		}
	}
}

func TestRightGateways(t *testing.T) {
	net4, net6 := prefix(t, "10.0.0.0/8"), prefix(t, "2001:db8::/32")
	for _, a := range []api.Ip{{}, addr.Four(1), addr.Four(math.MaxUint32), ip(t, "10.1.2.3")} {
		expectRight(t, api.Route{Kind: api.RPrefix, Ip: net4, Gw: a})
		expectWrong(t, api.Route{Kind: api.RPrefix, Ip: net6, Gw: a})
	}
	for _, a := range []api.Ip{{V6: true}, ip(t, "2001:db8::1"), ip(t, "::ffff"), {V6: true, B: [16]byte{10, 1, 2, 3}}} {
		expectRight(t, api.Route{Kind: api.RPrefix, Ip: net6, Gw: a})
		expectWrong(t, api.Route{Kind: api.RPrefix, Ip: net4, Gw: a})
		expectWrong(t, api.Route{Kind: api.RPrefix, Gw: a})
	}
}
