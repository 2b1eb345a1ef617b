package addr

import (
	"bytes"
	"math"
	"math/rand"
	"net/netip"
	"slices"
	"strings"
	"testing"

	"weft/api"
)

func six(list ...uint16) api.Ip {
	a := api.Ip{V6: true}
	for i, x := range list {
		a.B[2*i], a.B[2*i+1] = byte(x>>8), byte(x)
	}
	return a
}

func wide(b ...byte) api.Ip {
	a := api.Ip{}
	copy(a.B[:], b)
	return a
}

// wrongIps are addresses of IPv4 with a byte too much.
func wrongIps() []api.Ip {
	var list []api.Ip
	for at := 4; at < 16; at++ {
		a := Four(0x0a000001)
		a.B[at] = 1
		b := Four(0)
		b.B[at] = 0x80
		list = append(list, a, b)
	}
	return list
}

func rightIps() []api.Ip {
	list := []api.Ip{Four(0), Four(1), Four(0x0a010203), Four(0x80000000), Four(math.MaxUint32), six(), six(0, 0, 0, 0, 0, 0, 0, 1), six(0x2001, 0xdb8), six(0x0a01, 0x0203)}
	all := api.Ip{V6: true}
	for at := range all.B {
		a := api.Ip{V6: true}
		a.B[at] = 1
		all.B[at] = 255
		list = append(list, a, all)
	}
	return list
}

// P2.3

func TestRightIp(t *testing.T) {
	for _, a := range rightIps() {
		if !RightIp(a) {
			t.Errorf("%v isn't right", a)
		}
	}
	for _, a := range wrongIps() {
		if RightIp(a) {
			t.Errorf("%v is right", a)
		}
		a.V6 = true
		if !RightIp(a) {
			t.Errorf("%v isn't right", a)
		}
	}
}

func TestFourAndNumber(t *testing.T) {
	if got := Four(0x0a010203); got != wide(10, 1, 2, 3) {
		t.Error(got)
	}
	for _, n := range []uint32{0, 1, 0x0a010203, 0xff000000, 0x00ff0000, 0x0000ff00, 0xff, 0x80000000, math.MaxUint32} {
		a := Four(n)
		if a.V6 || a != wide(byte(n>>24), byte(n>>16), byte(n>>8), byte(n)) {
			t.Errorf("Four(%x) = %v", n, a)
		}
		if got, ok := Number(a); got != n || !ok {
			t.Errorf("Number(%v) = %x, %v", a, got, ok)
		}
		a.V6 = true
		if got, ok := Number(a); got != 0 || ok {
			t.Errorf("Number(%v) = %x, %v", a, got, ok)
		}
	}
	for _, a := range wrongIps() {
		if got, ok := Number(a); got != 0 || ok {
			t.Errorf("Number(%v) = %x, %v", a, got, ok)
		}
	}
}

func TestBits(t *testing.T) {
	for _, a := range append(rightIps(), wrongIps()...) {
		want := 32
		if a.V6 {
			want = 128
		}
		if got := Bits(a); got != want {
			t.Errorf("Bits(%v) = %d", a, got)
		}
	}
}

func TestIpTextAndBack(t *testing.T) {
	for s, a := range map[string]api.Ip{
		"0.0.0.0":                  Four(0),
		"10.0.0.255":               Four(0x0a0000ff),
		"255.255.255.255":          Four(math.MaxUint32),
		"1.20.100.9":               Four(0x01146409),
		"::":                       six(),
		"::1":                      six(0, 0, 0, 0, 0, 0, 0, 1),
		"1::":                      six(1),
		"2001:db8::1":              six(0x2001, 0xdb8, 0, 0, 0, 0, 0, 1),
		"1:0:0:2::3":               six(1, 0, 0, 2, 0, 0, 0, 3),
		"1::2:0:0:3":               six(1, 0, 0, 0, 0x2, 0, 0, 3),
		"1::2:0:0:3:4":             six(1, 0, 0, 2, 0, 0, 3, 4),
		"::2:0:0:0:3":              six(0, 0, 0, 2, 0, 0, 0, 3),
		"0:0:1::2":                 six(0, 0, 1, 0, 0, 0, 0, 2),
		"0:0:1:2:3::":              six(0, 0, 1, 2, 3),
		"::1:2:3:4:0:0":            six(0, 0, 1, 2, 3, 4, 0, 0),
		"0:1::":                    six(0, 1),
		"0:1:2:3:4:5:6:7":          six(0, 1, 2, 3, 4, 5, 6, 7),
		"1:2:3:4:5:6:7:0":          six(1, 2, 3, 4, 5, 6, 7, 0),
		"1:2:3:0:5:6:7:8":          six(1, 2, 3, 0, 5, 6, 7, 8),
		"1:0:2:0:3:0:4:0":          six(1, 0, 2, 0, 3, 0, 4, 0),
		"1:2:3:4:5:6::":            six(1, 2, 3, 4, 5, 6, 0, 0),
		"::3:4:5:6:7:8":            six(0, 0, 3, 4, 5, 6, 7, 8),
		"a:b0:c00:d000:e:f:10:100": six(0xa, 0xb0, 0xc00, 0xd000, 0xe, 0xf, 0x10, 0x100),
		"::ffff:102:304":           six(0, 0, 0, 0, 0, 0xffff, 0x102, 0x304),
		"ffff:ffff:ffff:ffff:ffff:ffff:ffff:ffff": six(0xffff, 0xffff, 0xffff, 0xffff, 0xffff, 0xffff, 0xffff, 0xffff),
	} {
		if got, e := IpText(a); got != s || e != api.OK {
			t.Errorf("IpText(%v) = %q, %d; want %q", a, got, e, s)
		}
		if got, e := ParseIp(s); got != a || e != api.OK {
			t.Errorf("ParseIp(%q) = %v, %d", s, got, e)
		}
	}
}

func TestIpTextOfWrongOnes(t *testing.T) {
	for _, a := range wrongIps() {
		if s, e := IpText(a); s != "" || e != api.ErrArg {
			t.Errorf("IpText(%v) = %q, %d", a, s, e)
		}
	}
}

func TestIpFormsThatAreRead(t *testing.T) {
	for s, a := range map[string]api.Ip{
		"0:0:0:0:0:0:0:0":                         six(),
		"0000:0000:0000:0000:0000:0000:0000:0000": six(),
		"::0":                    six(),
		"0::":                    six(),
		"0::0":                   six(),
		"2001:DB8:0::1":          six(0x2001, 0xdb8, 0, 0, 0, 0, 0, 1),
		"2001:0Db8::0001":        six(0x2001, 0xdb8, 0, 0, 0, 0, 0, 1),
		"ABCD:EF::aBcD":          six(0xabcd, 0xef, 0, 0, 0, 0, 0, 0xabcd),
		"1:2:3:4:5:6:7::":        six(1, 2, 3, 4, 5, 6, 7, 0),
		"::2:3:4:5:6:7:8":        six(0, 2, 3, 4, 5, 6, 7, 8),
		"1:2:3::5:6:7:8":         six(1, 2, 3, 0, 5, 6, 7, 8),
		"1::3:4:5:6:7:8":         six(1, 0, 3, 4, 5, 6, 7, 8),
		"1:0::0:2":               six(1, 0, 0, 0, 0, 0, 0, 2),
		"1::2:0:0:0:3":           six(1, 0, 0, 2, 0, 0, 0, 3),
		"01:002:0003:4:5:06:7:8": six(1, 2, 3, 4, 5, 6, 7, 8),
	} {
		if got, e := ParseIp(s); got != a || e != api.OK {
			t.Errorf("ParseIp(%q) = %v, %d", s, got, e)
		}
	}
}

func TestIpTextsThatAreNone(t *testing.T) {
	for _, s := range []string{
		"", " ", "0", "1", "x", ".", "..", "...", "....", ":", ":::", "::::", ":1", "1:", "-", "/", "\xff", "é",
		"1.2.3", "1.2.3.4.5", "1.2.3.", ".1.2.3", "1..2.3", "1.2.3.4.", ".1.2.3.4", "01.2.3.4", "1.02.3.4", "1.2.3.04", "1.2.3.00", "256.0.0.1", "0.0.0.256", "0.256.0.0", "1000.0.0.0", "a.0.0.1", "1.2.3.-4", "+1.2.3.4", "1.2.3.4 ", " 1.2.3.4", "0x1.2.3.4", "1.2.3.99999999999999999999", "1,2.3.4",
		"1:2:3:4:5:6:7", "1:2:3:4:5:6:7:8:9", "1:2:3:4:5:6:7:8:", ":1:2:3:4:5:6:7:8", "1:2:3:4:5:6:7:", ":2:3:4:5:6:7:8",
		"1::2::3", "::1::", "1::2::", "::::1", "1:::2", ":::1", "1:::", "::1:", ":1::", "1::2:", ":1::2", "1:2:3:4::5:6:7:8", "1:2:3:4:5:6:7:8::", "::1:2:3:4:5:6:7:8", "1:2:3:4:5:6:7::8", "1:2:3:4:5:6:7:8::9",
		"12345::", "::12345", "00001::", "1:2:3:4:5:6:7:00008", "g::", "::g", "G::", "1:2:3:4:5:6:7:g", "::-1", "+1::", "0x1::", "1 ::", ":: ", " ::", "::1%eth0", "fe80::1%1", "[::1]", "::1/128", "1.2.3.4/32",
		"::1.2.3.4", "::ffff:1.2.3.4", "1:2:3:4:5:6:1.2.3.4", "1.2.3.4::", "1.2:3.4",
		strings.Repeat(":", 5000), strings.Repeat("1:", 5000), strings.Repeat(".", 5000), strings.Repeat("1.", 5000), strings.Repeat("0", 5000), "::" + strings.Repeat("1:", 5000), strings.Repeat("1:", 5000) + ":",
	} {
		if a, e := ParseIp(s); a != (api.Ip{}) || e != api.ErrText {
			t.Errorf("ParseIp(%.60q) = %v, %d", s, a, e)
		}
	}
}

// :: in each place, for each number of groups that it may stand for.
func TestShortFormInEachPlace(t *testing.T) {
	full := []string{"1", "2", "3", "4", "5", "6", "7", "8"}
	for from := 0; from <= 8; from++ {
		for to := from; to <= 8; to++ {
			s := strings.Join(full[:from], ":") + "::" + strings.Join(full[to:], ":")
			list := []uint16{1, 2, 3, 4, 5, 6, 7, 8}
			clear(list[from:to])
			want, err := six(list...), api.OK
			if from == to {
				want, err = api.Ip{}, api.ErrText
			}
			if got, e := ParseIp(s); got != want || e != err {
				t.Errorf("ParseIp(%q) = %v, %d", s, got, e)
			}
		}
	}
}

// TestIpTextsAgainstTheLibrary holds texts made of the signs that matter against another reader; it knows zones and IPv4 within IPv6, which these texts do not have.
func TestIpTextsAgainstTheLibrary(t *testing.T) {
	r := rand.New(rand.NewSource(1))
	parts := []string{":", ":", ":", "::", "0", "0", "1", "a", "F", "12", "0db8", "ffff", "10000"}
	read := 0
	for range 300000 {
		var b strings.Builder
		for range 1 + r.Intn(16) {
			b.WriteString(parts[r.Intn(len(parts))])
		}
		s := b.String()
		lib, err := netip.ParseAddr(s)
		a, e := ParseIp(s)
		if (err == nil) != (e == api.OK) {
			t.Fatalf("ParseIp(%q) = %v, %d", s, a, e)
		}
		if err != nil {
			continue
		}
		read++
		if !a.V6 || a.B != lib.As16() {
			t.Fatalf("ParseIp(%q) = %v", s, a)
		}
	}
	if read < 1000 {
		t.Errorf("only %d texts were read", read)
	}
}

func TestFourTextsAgainstTheLibrary(t *testing.T) {
	r := rand.New(rand.NewSource(2))
	parts := []string{"0", "1", "9", "10", "99", "100", "199", "255", "256", "00", "01", "", "1.1", "x"}
	read := 0
	for range 100000 {
		list := make([]string, 2+r.Intn(4))
		for i := range list {
			list[i] = parts[r.Intn(len(parts))]
		}
		s := strings.Join(list, ".")
		lib, err := netip.ParseAddr(s)
		a, e := ParseIp(s)
		if (err == nil) != (e == api.OK) {
			t.Fatalf("ParseIp(%q) = %v, %d", s, a, e)
		}
		if err != nil {
			continue
		}
		read++
		four := lib.As4()
		if a != wide(four[:]...) {
			t.Fatalf("ParseIp(%q) = %v", s, a)
		}
	}
	if read < 1000 {
		t.Errorf("only %d texts were read", read)
	}
}

// P2.7

// Every way in which groups can be 0 or not, written, and read again.
func TestIpsAreReadAgain(t *testing.T) {
	for zeros := range 256 {
		list := []uint16{1, 0x20, 0x300, 0x4000, 0xabcd, 0xffff, 0x7, 0x8f}
		for i := range list {
			if zeros>>i&1 == 1 {
				list[i] = 0
			}
		}
		a := six(list...)
		s, e := IpText(a)
		if e != api.OK || s != netip.AddrFrom16(a.B).String() && !strings.HasPrefix(s, "::ffff:") {
			t.Errorf("IpText(%v) = %q, %d", a, s, e)
		}
		if got, e := ParseIp(s); got != a || e != api.OK {
			t.Errorf("ParseIp(%q) = %v, %d", s, got, e)
		}
	}
	for _, a := range rightIps() {
		s, _ := IpText(a)
		if got, e := ParseIp(s); got != a || e != api.OK {
			t.Errorf("ParseIp(%q) = %v, %d", s, got, e)
		}
	}
}

// P2.4

func TestCompareIp(t *testing.T) {
	// In their order; the wrong ones have one too.
	list := []api.Ip{
		Four(0), wide(0, 0, 0, 0, 1), Four(1), wide(0, 0, 0, 1, 0, 0, 0, 0, 0, 0, 0, 0, 0, 0, 0, 1), Four(255), Four(256), Four(0x0a000001), Four(0x7fffffff), Four(0x80000000), Four(math.MaxUint32),
		wide(bytes.Repeat([]byte{255}, 16)...),
		six(), six(0, 0, 0, 0, 0, 0, 0, 1), six(0, 0, 0, 0, 0, 0, 1), six(0, 1), six(1), six(0x0a00, 1), six(0x7fff), six(0x8000), six(0xffff), six(0xffff, 0, 0, 0, 0, 0, 0, 1),
	}
	for i, a := range list {
		for j, b := range list {
			want := 0
			if i < j {
				want = -1
			} else if i > j {
				want = 1
			}
			if got := CompareIp(a, b); got != want {
				t.Errorf("CompareIp(%v, %v) = %d", a, b, got)
			}
		}
	}
	if !slices.IsSortedFunc(list, CompareIp) {
		t.Error("not in order")
	}
}

// The chapter's first example.
func TestChapterExampleIps(t *testing.T) {
	a := api.Ip{V6: true, B: [16]byte{0x20, 0x01, 0x0d, 0xb8, 15: 1}}
	if s, e := IpText(a); s != "2001:db8::1" || e != api.OK {
		t.Error(s, e)
	}
	if a, e := ParseIp("::"); a != (api.Ip{V6: true}) || e != api.OK {
		t.Error(a, e)
	}
	for _, s := range []string{"1::2::3", "1:2:3:4:5:6:7", "01.2.3.4"} {
		if a, e := ParseIp(s); a != (api.Ip{}) || e != api.ErrText {
			t.Error(s, a, e)
		}
	}
	if s, e := IpText(six(1, 0, 0, 2, 0, 0, 0, 3)); s != "1:0:0:2::3" || e != api.OK {
		t.Error(s, e)
	}
}
