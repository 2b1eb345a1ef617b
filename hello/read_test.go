package hello

import (
	"bytes"
	"math/rand"
	"slices"
	"testing"

	"weft/api"
)

// joined answers the parts one behind the other.
func joined(parts ...[]byte) []byte {
	return slices.Concat(parts...)
}

// tlv answers what a parameter and a capability are alike: a byte, the length, the value.
func tlv(kind byte, parts ...[]byte) []byte {
	v := joined(parts...)
	return joined([]byte{kind, byte(len(v))}, v)
}

// open answers an open's body, of As 65000, Hold 90, Id 10.0.0.1, with those parameters.
func open(parts ...[]byte) []byte {
	l := joined(parts...)
	return joined([]byte{4, 0xfd, 0xe8, 0, 90, 10, 0, 0, 1, byte(len(l))}, l)
}

// changed answers b with other bytes from a place on.
func changed(b []byte, at int, by ...byte) []byte {
	out := bytes.Clone(b)
	copy(out[at:], by)
	return out
}

// Capabilities of opens.
var (
	capEvpn    = []byte{1, 4, 0, 25, 0, 70}
	capRefresh = []byte{2, 0}
	capWide    = []byte{65, 4, 0, 1, 0x11, 0x70}
)

// plain is what open says without parameters.
var plain = api.Hello{As: 65000, Hold: 90, Id: 0x0a000001}

// Faults of opens.
var (
	formIs      = api.Fault{Code: 2, Sub: 0}
	versionIs   = api.Fault{Code: 2, Sub: 1, Data: []byte{0, 4}}
	asIs        = api.Fault{Code: 2, Sub: 2}
	idIs        = api.Fault{Code: 2, Sub: 3}
	parameterIs = api.Fault{Code: 2, Sub: 4}
	holdIs      = api.Fault{Code: 2, Sub: 6}
)

func expect(t *testing.T, b []byte, want api.Hello) {
	t.Helper()
	got, f, is := Read(b)
	if !is || got != want || !sameFault(f, api.Fault{}) {
		t.Errorf("Read(% x) = %+v, %v, %v, want %+v", b, got, f, is, want)
	}
}

func expectFault(t *testing.T, b []byte, want api.Fault) {
	t.Helper()
	got, f, is := Read(b)
	if is || got != (api.Hello{}) || !sameFault(f, want) {
		t.Errorf("Read(% x) = %+v, %v, %v, want %v", b, got, f, is, want)
	}
}

// P8.2

func TestReadOfTheChapter(t *testing.T) {
	expect(t, []byte{0x04, 0xfd, 0xe8, 0x00, 0x5a, 0x0a, 0x00, 0x00, 0x01, 0x08, 0x02, 0x06, 0x01, 0x04, 0x00, 0x19, 0x00, 0x46},
		api.Hello{As: 65000, Hold: 90, Id: 0x0a000001, Evpn: true})
	expectFault(t, changed(open(), 0, 5), versionIs)
}

func TestReadOfEachCapability(t *testing.T) {
	eachFlags(func(isEvpn, isRefresh, isWide bool) {
		want := plain
		want.Evpn, want.Refresh, want.Wide = isEvpn, isRefresh, isWide
		var l [][]byte
		if isEvpn {
			l = append(l, capEvpn)
		}
		if isRefresh {
			l = append(l, capRefresh)
		}
		if isWide {
			l = append(l, capWide)
			want.As = 70000
		}
		expect(t, open(tlv(2, l...)), want)
		slices.Reverse(l)
		expect(t, open(tlv(2, l...)), want) // no order is asked for
		var apart []byte
		for _, c := range l {
			apart = append(apart, tlv(2, c)...)
		}
		expect(t, open(apart), want) // nor that one parameter has them all
	})
}

func TestReadOfShortBodies(t *testing.T) {
	expectFault(t, nil, formIs)
	whole := open()
	for n := range whole {
		expectFault(t, whole[:n], formIs)
		if n > 0 {
			expectFault(t, changed(whole, 0, 3)[:n], formIs) // that it is short comes ahead of its first byte
		}
	}
	expect(t, whole, plain)
}

func TestReadOfOtherVersions(t *testing.T) {
	for v := range 256 {
		b := changed(open(tlv(2, capEvpn)), 0, byte(v))
		if v == 4 {
			continue
		}
		expectFault(t, b, versionIs)
		expectFault(t, b[:10], versionIs)                      // ahead of the parameters' length
		expectFault(t, changed(b, 1, 0, 0, 0, 1), versionIs)   // ahead of As and Hold
		expectFault(t, changed(b, 5, 0, 0, 0, 0), versionIs)   // ahead of the Id
		expectFault(t, changed(b, 9, 8, 3, 6, 1), versionIs)   // ahead of a parameter's kind
		expectFault(t, changed(b, 9, 8, 2, 255, 1), versionIs) // ahead of one that goes beyond
	}
}

func TestReadOfParametersLength(t *testing.T) {
	whole := open(tlv(2, capEvpn))
	for n := range 256 {
		if n != 8 {
			expectFault(t, changed(whole, 9, byte(n)), formIs)
		}
	}
	expectFault(t, joined(whole, []byte{0}), formIs)
	expectFault(t, whole[:len(whole)-1], formIs)
	expectFault(t, joined(open(), []byte{0}), formIs)
	expectFault(t, joined(open(), []byte{2, 0}), formIs)
	expectFault(t, changed(open(), 9, 1), formIs)
	expectFault(t, joined(whole, make([]byte, 256)), formIs) // 256 more: the same length in one byte
	expectFault(t, joined(open(), make([]byte, 256)), formIs)
	// The length comes ahead of the kind of a parameter, and of the numbers.
	expectFault(t, changed(open(tlv(3)), 9, 3), formIs)
	expectFault(t, changed(whole, 1, 0, 0, 0, 1, 0, 0, 0, 0, 7), formIs)
	// As many bytes as the length can tell: 255.
	expect(t, open(tlv(2, capEvpn, tlv(99, make([]byte, 245)))), api.Hello{As: 65000, Hold: 90, Id: 0x0a000001, Evpn: true})
}

func TestReadOfParametersThatGoBeyond(t *testing.T) {
	expectFault(t, open([]byte{2}), formIs)
	expectFault(t, open([]byte{3}), formIs) // that it goes beyond comes ahead of its kind
	expectFault(t, open([]byte{2, 1}), formIs)
	expectFault(t, open([]byte{3, 1}), formIs)
	expectFault(t, open([]byte{2, 255}), formIs)
	expectFault(t, open(changed(tlv(2, capEvpn), 1, 7)), formIs)
	expectFault(t, open(changed(tlv(3, capEvpn), 1, 7)), formIs)
	expectFault(t, open(tlv(2, capEvpn), []byte{2}), formIs)
	expectFault(t, open(tlv(2, capEvpn), []byte{2, 3, 2, 0}), formIs)
	expectFault(t, open(tlv(2), []byte{2, 1}), formIs)
	// A length too small by one leaves a byte behind, into which no parameter goes.
	expect(t, open([]byte{2, 4, 2, 0, 99, 0}), api.Hello{As: 65000, Hold: 90, Id: 0x0a000001, Refresh: true})
	expectFault(t, open([]byte{2, 3, 2, 0, 99, 0}), formIs)
	expectFault(t, open([]byte{2, 2, 2, 0, 99}), formIs)
}

func TestReadOfCapabilitiesThatGoBeyond(t *testing.T) {
	expectFault(t, open(tlv(2, []byte{1})), formIs)
	expectFault(t, open(tlv(2, []byte{99})), formIs)
	expectFault(t, open(tlv(2, []byte{2, 1})), formIs)
	expectFault(t, open(tlv(2, []byte{99, 255})), formIs)
	expectFault(t, open(tlv(2, changed(capEvpn, 1, 5))), formIs)
	expectFault(t, open(tlv(2, capEvpn, capRefresh, []byte{99, 3, 0, 0})), formIs)
	expectFault(t, open(tlv(2, capEvpn, []byte{2})), formIs)
	// Bytes of the next parameter are not its own.
	expectFault(t, open(tlv(2, []byte{1, 4, 0, 25}), tlv(2, []byte{0, 70})), formIs)
	expectFault(t, open(tlv(2, []byte{99, 2}), tlv(2)), formIs)
}

func TestReadOfParametersOfOtherKinds(t *testing.T) {
	for kind := range 256 {
		b := tlv(byte(kind), capEvpn)
		if kind == 2 {
			continue
		}
		expectFault(t, open(b), parameterIs)
		expectFault(t, open(tlv(byte(kind))), parameterIs)
		expectFault(t, open(tlv(2, capEvpn), b), parameterIs)
		expectFault(t, open(b, tlv(2, capEvpn)), parameterIs)
	}
}

func TestReadTellsTheFirstFaultOfTheParameters(t *testing.T) {
	other := tlv(1, []byte{7})
	beyond := []byte{2, 9, 2, 0}
	badCapability := tlv(2, []byte{2, 1})
	badWide := tlv(2, []byte{65, 3, 0, 0, 1})
	for _, bad := range [][]byte{beyond, badCapability, badWide} {
		expectFault(t, open(other, bad), parameterIs)
		expectFault(t, open(tlv(2, capRefresh), other, bad), parameterIs)
	}
	for _, bad := range [][]byte{badCapability, badWide} {
		expectFault(t, open(bad, other), formIs)
		expectFault(t, open(tlv(2, capRefresh), bad, other), formIs)
	}
	// What is in a parameter of another kind is not looked into.
	expectFault(t, open(tlv(0, []byte{65, 3, 0, 0, 1})), parameterIs)
	expectFault(t, open(tlv(0, []byte{2, 1})), parameterIs)
}

func TestReadOfParametersAheadOfNumbers(t *testing.T) {
	for _, x := range []struct {
		parameters []byte
		want       api.Fault
	}{
		{tlv(3), parameterIs},
		{[]byte{2}, formIs},
		{tlv(2, []byte{65, 3, 0, 0, 1}), formIs},
		{tlv(2, []byte{2, 1}), formIs},
	} {
		b := open(x.parameters)
		expectFault(t, b, x.want)
		expectFault(t, changed(b, 1, 0, 0), x.want)
		expectFault(t, changed(b, 3, 0, 1), x.want)
		expectFault(t, changed(b, 5, 0, 0, 0, 0), x.want)
		expectFault(t, changed(b, 1, 0, 0, 0, 2, 0, 0, 0, 0), x.want)
	}
}

func TestReadOfWide(t *testing.T) {
	for n := range 12 {
		b := open(tlv(2, capEvpn, tlv(65, []byte{0, 1, 0x11, 0x70, 5, 6, 7, 8, 9, 10, 11, 12}[:n])))
		if n == 4 {
			expect(t, b, api.Hello{As: 70000, Hold: 90, Id: 0x0a000001, Evpn: true, Wide: true})
		} else {
			expectFault(t, b, formIs)
		}
	}
	wide := func(as uint32) []byte {
		return []byte{65, 4, byte(as >> 24), byte(as >> 16), byte(as >> 8), byte(as)}
	}
	want := plain
	want.Wide = true
	for _, as := range []uint32{1, 23456, 65535, 65536, 1<<32 - 1} {
		want.As = as
		expect(t, open(tlv(2, wide(as))), want)
		expect(t, changed(open(tlv(2, wide(as))), 1, 0, 0), want)       // two bytes of 0 play no part then
		expect(t, changed(open(tlv(2, wide(as))), 1, 0x5b, 0xa0), want) // nor what stands in there
		expect(t, open(tlv(2, wide(7), wide(as))), want)                // the last one counts
		expect(t, open(tlv(2, wide(7)), tlv(2, wide(as))), want)
		expect(t, open(tlv(2, wide(0), wide(as))), want)
		expectFault(t, open(tlv(2, wide(as), wide(0))), asIs)
		expectFault(t, open(tlv(2, wide(as)), tlv(2, wide(0))), asIs)
		expectFault(t, open(tlv(2, wide(as), []byte{65, 0})), formIs)
	}
}

func TestReadOfAs(t *testing.T) {
	for _, as := range []uint32{1, 255, 256, 23456, 65534, 65535} {
		want := plain
		want.As = as
		expect(t, changed(open(), 1, byte(as>>8), byte(as)), want)
	}
	expectFault(t, changed(open(), 1, 0, 0), asIs)
	expectFault(t, changed(open(tlv(2, capEvpn, capRefresh)), 1, 0, 0), asIs)
	expectFault(t, open(tlv(2, []byte{65, 4, 0, 0, 0, 0})), asIs)
}

func TestReadOfId(t *testing.T) {
	want := plain
	for _, id := range []uint32{1, 256, 1 << 16, 1 << 24, 1<<32 - 1} {
		want.Id = id
		expect(t, changed(open(), 5, byte(id>>24), byte(id>>16), byte(id>>8), byte(id)), want)
	}
	expectFault(t, changed(open(), 5, 0, 0, 0, 0), idIs)
}

func TestReadOfHold(t *testing.T) {
	for _, hold := range []int{0, 1, 2, 3, 4, 255, 256, 257, 258, 512, 65534, 65535} {
		b := changed(open(), 3, byte(hold>>8), byte(hold))
		if hold == 1 || hold == 2 {
			expectFault(t, b, holdIs)
			continue
		}
		want := plain
		want.Hold = hold
		expect(t, b, want)
	}
}

func TestReadTellsTheFirstFaultOfTheNumbers(t *testing.T) {
	noAs := changed(open(tlv(2, capEvpn)), 1, 0, 0)
	expectFault(t, changed(noAs, 5, 0, 0, 0, 0), asIs)
	expectFault(t, changed(noAs, 3, 0, 1), asIs)
	expectFault(t, changed(noAs, 3, 0, 2, 0, 0, 0, 0), asIs)
	expectFault(t, changed(open(tlv(2, capEvpn)), 3, 0, 1, 0, 0, 0, 0), idIs)
	expectFault(t, changed(open(tlv(2, []byte{65, 4, 0, 0, 0, 0})), 3, 0, 1, 0, 0, 0, 0), asIs)
}

func TestReadOfCapabilitiesThatPlayNoPart(t *testing.T) {
	for _, c := range [][]byte{
		tlv(1),
		tlv(1, []byte{0, 25, 0}),
		tlv(1, []byte{0, 25, 0, 71}),
		tlv(1, []byte{0, 25, 1, 70}), // the third byte is told too
		tlv(1, []byte{0, 24, 0, 70}),
		tlv(1, []byte{1, 25, 0, 70}),
		tlv(1, []byte{0, 1, 0, 1}),
		tlv(1, []byte{0, 25, 0, 70, 0}),
		tlv(1, []byte{0, 25, 0, 70, 0, 25, 0, 70}),
		tlv(2, []byte{0}),
		tlv(2, []byte{0, 25, 0, 70}),
		tlv(0, []byte{0, 25, 0, 70}),
		tlv(3, []byte{0, 25, 0, 70}),
		tlv(64, []byte{0, 1, 0x11, 0x70}),
		tlv(66, []byte{0, 1, 0x11, 0x70}),
		tlv(128),
		tlv(255, []byte{1, 2, 3}),
	} {
		expect(t, open(tlv(2, c)), plain)
		all := api.Hello{As: 70000, Hold: 90, Id: 0x0a000001, Evpn: true, Refresh: true, Wide: true}
		// Nor do they undo what another one has told.
		expect(t, open(tlv(2, c, capEvpn, capRefresh, capWide)), all)
		expect(t, open(tlv(2, capEvpn, capRefresh, capWide, c)), all)
		expect(t, open(tlv(2, capEvpn, capRefresh), tlv(2, c), tlv(2, capWide)), all)
	}
	for code := range 256 {
		if code != 2 && code != 65 {
			expect(t, open(tlv(2, tlv(byte(code)))), plain)
		}
	}
}

func TestReadOfSeveralParameters(t *testing.T) {
	expect(t, open(tlv(2)), plain)
	expect(t, open(tlv(2), tlv(2), tlv(2)), plain)
	expect(t, open(tlv(2, capEvpn, capEvpn)), api.Hello{As: 65000, Hold: 90, Id: 0x0a000001, Evpn: true})
	expect(t, open(tlv(2), tlv(2, capWide), tlv(2, capEvpn), tlv(2), tlv(2, capRefresh, capRefresh)),
		api.Hello{As: 70000, Hold: 90, Id: 0x0a000001, Evpn: true, Refresh: true, Wide: true})
}

func TestReadLeavesItsArgumentAlone(t *testing.T) {
	room := joined(open(tlv(2, capEvpn, capRefresh, capWide)), []byte{1, 2, 3})
	was := bytes.Clone(room)
	Read(room[:len(room)-3])
	Read(room[:12])
	if !bytes.Equal(room, was) {
		t.Errorf("the argument is now % x", room)
	}
	for range 3 {
		_, f, _ := Read(changed(open(), 0, 9))
		if !sameFault(f, versionIs) {
			t.Fatalf("fault %v", f)
		}
		scribble(f.Data)
	}
}

// again reads an open's body a second way: by places, all of it at once.
func again(b []byte) (api.Hello, api.Fault, bool) {
	bad := func(sub int, data ...byte) (api.Hello, api.Fault, bool) {
		return api.Hello{}, api.Fault{Code: 2, Sub: sub, Data: data}, false
	}
	if len(b) < 10 {
		return bad(0)
	}
	if b[0] != 4 {
		return bad(1, 0, 4)
	}
	if len(b) != 10+int(b[9]) {
		return bad(0)
	}
	h := api.Hello{As: uint32(b[1])*256 + uint32(b[2]), Hold: int(b[3])*256 + int(b[4])}
	for _, x := range b[5:9] {
		h.Id = h.Id*256 + uint32(x)
	}
	for at := 10; at < len(b); {
		if at+1 >= len(b) || at+2+int(b[at+1]) > len(b) {
			return bad(0)
		}
		if b[at] != 2 {
			return bad(4)
		}
		end := at + 2 + int(b[at+1])
		for at += 2; at < end; {
			if at+1 >= end || at+2+int(b[at+1]) > end {
				return bad(0)
			}
			code, v := b[at], string(b[at+2:at+2+int(b[at+1])])
			at += 2 + len(v)
			if code == 65 && len(v) != 4 {
				return bad(0)
			}
			if code == 1 && v == "\x00\x19\x00F" {
				h.Evpn = true
			}
			if code == 2 && v == "" {
				h.Refresh = true
			}
			if code == 65 {
				h.Wide = true
				h.As = uint32(v[0])<<24 | uint32(v[1])<<16 | uint32(v[2])<<8 | uint32(v[3])
			}
		}
	}
	switch {
	case h.As == 0:
		return bad(2)
	case h.Id == 0:
		return bad(3)
	case h.Hold == 1, h.Hold == 2:
		return bad(6)
	}
	return h, api.Fault{}, true
}

func compare(t *testing.T, b []byte, told map[int]int) {
	t.Helper()
	h, f, is := Read(b)
	wantH, wantF, wantIs := again(b)
	if is != wantIs || h != wantH || !sameFault(f, wantF) {
		t.Fatalf("Read(% x) = %+v, %v, %v, want %+v, %v, %v", b, h, f, is, wantH, wantF, wantIs)
	}
	if is {
		told[-1]++
	} else {
		told[f.Sub]++
	}
}

// anyOpen answers an open's body with some capabilities, right ones and others, in some parameters.
func anyOpen(r *rand.Rand) []byte {
	var l []byte
	for range r.Intn(4) {
		var cs []byte
		for range r.Intn(4) {
			switch r.Intn(5) {
			case 0:
				cs = append(cs, capEvpn...)
			case 1:
				cs = append(cs, capRefresh...)
			case 2:
				cs = append(cs, capWide...)
			default:
				v := make([]byte, r.Intn(6))
				r.Read(v)
				cs = append(cs, tlv(byte([]int{1, 2, 3, 64, 70}[r.Intn(5)]), v)...)
			}
		}
		l = append(l, tlv(2, cs)...)
	}
	b := open(l)
	for _, at := range []int{1, 3, 5} {
		if r.Intn(4) == 0 {
			b = changed(b, at, 0, byte(r.Intn(4)))
		}
	}
	if r.Intn(8) == 0 {
		b = changed(b, 5, 0, 0, 0, 0)
	}
	return b
}

func TestReadOfSpoiltBodies(t *testing.T) {
	r := rand.New(rand.NewSource(82))
	told := map[int]int{}
	for range 100000 {
		b := anyOpen(r)
		for range r.Intn(3) {
			if len(b) == 0 {
				break
			}
			at := r.Intn(len(b))
			switch r.Intn(4) {
			case 0:
				b = changed(b, at, byte(r.Intn(256)))
			case 1:
				b = changed(b, at, byte(r.Intn(6)))
			case 2:
				b = b[:at]
			case 3: // shorter, with a length that knows it
				if at >= 10 {
					b = changed(b[:at], 9, byte(at-10))
				}
			}
		}
		compare(t, b, told)
	}
	for _, sub := range []int{-1, 0, 1, 2, 3, 4, 6} {
		if told[sub] < 100 {
			t.Errorf("only %d bodies of %d", told[sub], sub)
		}
	}
}

func TestReadOfAnyBytes(t *testing.T) {
	r := rand.New(rand.NewSource(28))
	told := map[int]int{}
	for range 20000 {
		b := make([]byte, r.Intn(40))
		r.Read(b)
		compare(t, b, told)
		for i := range b {
			b[i] %= 5
		}
		if len(b) >= 10 {
			b[0], b[9] = 4, byte(len(b)-10)
		}
		compare(t, b, told)
	}
}

// P8.4

func TestReadFaultOfEachLength(t *testing.T) {
	for _, b := range [][]byte{nil, {}, {6}} {
		if f, e := ReadFault(b); e != api.ErrShort || !sameFault(f, api.Fault{}) {
			t.Errorf("ReadFault(% x) = %v, %d", b, f, e)
		}
	}
	for _, x := range []struct {
		b    []byte
		want api.Fault
	}{
		{[]byte{6, 2}, api.Fault{Code: 6, Sub: 2}},
		{[]byte{0, 0}, api.Fault{}},
		{[]byte{255, 128}, api.Fault{Code: 255, Sub: 128}},
		{[]byte{2, 1, 0, 4}, api.Fault{Code: 2, Sub: 1, Data: []byte{0, 4}}},
		{[]byte{9, 99, 7}, api.Fault{Code: 9, Sub: 99, Data: []byte{7}}},
	} {
		if f, e := ReadFault(x.b); e != api.OK || !sameFault(f, x.want) {
			t.Errorf("ReadFault(% x) = %v, %d", x.b, f, e)
		}
	}
	long := bytes.Repeat([]byte{1, 2, 3}, 30000) // more than PutFault would put
	if f, e := ReadFault(long); e != api.OK || !sameFault(f, api.Fault{Code: 1, Sub: 2, Data: long[2:]}) {
		t.Errorf("ReadFault of %d bytes: %d bytes of data, %d", len(long), len(f.Data), e)
	}
}

func TestReadFaultLeavesItsArgumentAlone(t *testing.T) {
	room := []byte{2, 1, 0, 4, 9, 9}
	f, _ := ReadFault(room[:4])
	scribble(f.Data)
	if !bytes.Equal(room, []byte{2, 1, 0, 4, 9, 9}) {
		t.Errorf("the argument is now % x", room)
	}
	f, _ = ReadFault(room[:4])
	scribble(room)
	if !bytes.Equal(f.Data, []byte{0, 4}) {
		t.Errorf("the answer follows its argument: % x", f.Data)
	}
}

func TestReadRefresh(t *testing.T) {
	for third := range 256 {
		if !ReadRefresh([]byte{0, 25, byte(third), 70}) {
			t.Errorf("ReadRefresh with the third byte %d: false", third)
		}
	}
	for _, b := range [][]byte{nil, {}, {0}, {0, 25}, {0, 25, 0}, {25, 0, 70}, {0, 25, 70}, {0, 25, 0, 70, 0}, {0, 0, 25, 0, 70}, {0, 25, 0, 70, 0, 25, 0, 70}} {
		if ReadRefresh(b) {
			t.Errorf("ReadRefresh(% x): true", b)
		}
	}
	for _, at := range []int{0, 1, 3} {
		right := []byte{0, 25, 0, 70}
		for n := range 256 {
			if byte(n) != right[at] && ReadRefresh(changed(right, at, byte(n))) {
				t.Errorf("ReadRefresh with %d at %d: true", n, at)
			}
		}
	}
}

func TestReadRefreshLeavesItsArgumentAlone(t *testing.T) {
	b := []byte{0, 25, 9, 70}
	if ReadRefresh(b); !bytes.Equal(b, []byte{0, 25, 9, 70}) {
		t.Errorf("the argument is now % x", b)
	}
}
