package attr

import (
	"bytes"
	"encoding/binary"
	"math"
	"math/rand"
	"testing"

	"weft/api"
)

func expectWriteError(t *testing.T, a api.Attrs, want api.Errno) {
	t.Helper()
	if got, e := Write(a); e != want || len(got) != 0 {
		t.Errorf("Write(%v) = %v, %d; want %d", a, got, e, want)
	}
}

func expectWrite(t *testing.T, a api.Attrs, want ...api.Raw) {
	t.Helper()
	got, e := Write(a)
	expectRaws(t, got, e, want...)
}

// written are the attributes that always stand there, with the given ones behind AOrigin and APath, ahead of APref, and behind it.
func written(pref byte, ahead []api.Raw, behind ...api.Raw) []api.Raw {
	l := []api.Raw{{Flags: 64, Kind: 1, Value: []byte{0}}, {Flags: 64, Kind: 2}}
	l = append(l, ahead...)
	l = append(l, api.Raw{Flags: 64, Kind: 5, Value: []byte{0, 0, 0, pref}})
	return append(l, behind...)
}

// P5.4

func TestWriteNothing(t *testing.T) {
	expectWrite(t, api.Attrs{}, written(0, nil)...)
	expectWrite(t, api.Attrs{Path: []uint32{}, Clusters: []uint32{}, Comms: []api.Comm{}}, written(0, nil)...)
}

func TestWriteAll(t *testing.T) {
	a := whole()
	expectWrite(t, a,
		api.Raw{Flags: 64, Kind: 1, Value: []byte{2}},
		api.Raw{Flags: 64, Kind: 2, Value: []byte{2, 2, 0, 0, 253, 233, 1, 2, 3, 4}},
		api.Raw{Flags: 128, Kind: 4, Value: []byte{0, 0, 1, 0}},
		api.Raw{Flags: 64, Kind: 5, Value: []byte{255, 0, 0, 100}},
		api.Raw{Flags: 128, Kind: 9, Value: []byte{10, 0, 0, 7}},
		api.Raw{Flags: 128, Kind: 10, Value: []byte{0, 0, 0, 7, 128, 0, 0, 8}},
		api.Raw{Flags: 192, Kind: 16, Value: []byte{0, 2, 253, 232, 0, 0, 0, 100, 6, 0, 1, 0, 0, 0, 0, 5}},
		api.Raw{Flags: 192, Kind: 22, Value: []byte{0, 6, 1, 2, 3, 10, 0, 0, 1}},
	)
}

func TestWriteOneByOne(t *testing.T) {
	expectWrite(t, api.Attrs{HasMed: true}, written(0, []api.Raw{{Flags: 128, Kind: 4, Value: []byte{0, 0, 0, 0}}})...)
	expectWrite(t, api.Attrs{HasMed: true, Med: math.MaxUint32}, written(0, []api.Raw{{Flags: 128, Kind: 4, Value: []byte{255, 255, 255, 255}}})...)
	expectWrite(t, api.Attrs{Originator: 1}, written(0, nil, api.Raw{Flags: 128, Kind: 9, Value: []byte{0, 0, 0, 1}})...)
	expectWrite(t, api.Attrs{Clusters: []uint32{0}}, written(0, nil, api.Raw{Flags: 128, Kind: 10, Value: []byte{0, 0, 0, 0}})...)
	expectWrite(t, api.Attrs{Comms: []api.Comm{{}}}, written(0, nil, api.Raw{Flags: 192, Kind: 16, Value: make([]byte, 8)})...)
	for origin := range 3 {
		l := written(0, nil)
		l[0].Value[0] = byte(origin)
		expectWrite(t, api.Attrs{Origin: origin}, l...)
	}
}

func TestWritePmsi(t *testing.T) {
	six := api.Ip{V6: true, B: [16]byte{32, 1, 15: 9}}
	rows := []struct {
		p    api.Pmsi
		want []byte
	}{
		{api.Pmsi{Kind: 1}, []byte{0, 1, 0, 0, 0}},
		{api.Pmsi{Kind: 5, Label: api.MaxLabel}, []byte{0, 5, 255, 255, 255}},
		{api.Pmsi{Kind: 7, Label: 256}, []byte{0, 7, 0, 1, 0}},
		{api.Pmsi{Kind: 255, Label: 1}, []byte{0, 255, 0, 0, 1}},
		{api.Pmsi{Kind: 6}, []byte{0, 6, 0, 0, 0, 0, 0, 0, 0}},
		{api.Pmsi{Kind: 6, Label: 1, Ip: api.Ip{B: [16]byte{10, 0, 0, 1}}}, []byte{0, 6, 0, 0, 1, 10, 0, 0, 1}},
		{api.Pmsi{Kind: 6, Label: api.MaxLabel, Ip: six}, append([]byte{0, 6, 255, 255, 255}, six.B[:]...)},
		{api.Pmsi{Kind: 6, Ip: api.Ip{V6: true}}, append([]byte{0, 6, 0, 0, 0}, make([]byte, 16)...)},
	}
	for _, r := range rows {
		expectWrite(t, api.Attrs{Pmsi: r.p}, written(0, nil, api.Raw{Flags: 192, Kind: 22, Value: r.want})...)
	}
}

func TestWriteWhatIsNotRight(t *testing.T) {
	var wrong []api.Attrs
	for _, n := range append([]int{3, 4, 255}, oddNumbers...) {
		wrong = append(wrong, api.Attrs{Origin: n})
	}
	for _, n := range oddNumbers {
		wrong = append(wrong, api.Attrs{Pmsi: api.Pmsi{Kind: n}})
	}
	for _, kind := range []int{1, 6, 255} {
		for _, label := range []uint32{api.MaxLabel + 1, math.MaxUint32} {
			wrong = append(wrong, api.Attrs{Pmsi: api.Pmsi{Kind: kind, Label: label}})
		}
	}
	for _, kind := range []int{0, 1, 5, 6, 7, 255} {
		for i := 4; i < 16; i++ {
			var ip api.Ip
			ip.B[i] = 1
			wrong = append(wrong, api.Attrs{Pmsi: api.Pmsi{Kind: kind, Ip: ip}})
		}
		if kind == 6 {
			continue
		}
		for i := range 4 {
			var ip api.Ip
			ip.B[i] = 1
			wrong = append(wrong, api.Attrs{Pmsi: api.Pmsi{Kind: kind, Ip: ip}})
		}
		wrong = append(wrong, api.Attrs{Pmsi: api.Pmsi{Kind: kind, Ip: api.Ip{V6: true}}}, api.Attrs{Pmsi: api.Pmsi{Kind: kind, Ip: api.Ip{V6: true, B: [16]byte{15: 1}}}})
	}
	for _, label := range []uint32{1, api.MaxLabel} {
		wrong = append(wrong, api.Attrs{Pmsi: api.Pmsi{Label: label}})
	}
	for _, med := range []uint32{1, math.MaxUint32} {
		wrong = append(wrong, api.Attrs{Med: med})
	}
	for _, a := range wrong {
		expectWriteError(t, a, api.ErrArg)
		a.Path, a.Clusters, a.Comms = make([]uint32, 256), make([]uint32, 256), make([]api.Comm, 256)
		expectWriteError(t, a, api.ErrArg)
	}
}

func TestWriteListsAtTheirMost(t *testing.T) {
	for _, n := range []int{256, 257, 511, 512, 65536} {
		expectWriteError(t, api.Attrs{Path: make([]uint32, n)}, api.ErrFull)
		expectWriteError(t, api.Attrs{Clusters: make([]uint32, n)}, api.ErrFull)
		expectWriteError(t, api.Attrs{Comms: make([]api.Comm, n)}, api.ErrFull)
	}
	n := 255
	numbers := make([]uint32, n)
	comms := make([]api.Comm, n)
	var b, c []byte
	for i := range n {
		numbers[i] = uint32(i) * 0x01010203
		b = binary.BigEndian.AppendUint32(b, numbers[i])
		comms[i] = api.Comm{byte(i), 2, 3, 4, 5, 6, 7, byte(i)}
		c = append(c, comms[i][:]...)
	}
	l := written(1, nil, api.Raw{Flags: 144, Kind: 10, Value: b}, api.Raw{Flags: 208, Kind: 16, Value: c})
	l[1] = api.Raw{Flags: 80, Kind: 2, Value: append([]byte{2, 255}, b...)}
	expectWrite(t, api.Attrs{Pref: 1, Path: numbers, Clusters: numbers, Comms: comms}, l...)
}

// The bit 16 stands there just where the length needs it.
func TestWriteLongBit(t *testing.T) {
	for n := range 256 {
		l, e := Write(api.Attrs{Path: make([]uint32, n), Clusters: make([]uint32, n), Comms: make([]api.Comm, n), Pmsi: api.Pmsi{Kind: 6}})
		if e != api.OK {
			t.Fatal(n, e)
		}
		for _, r := range l {
			if r.Flags&16 != 0 != (len(r.Value) > 255) {
				t.Errorf("kind %d: %d bytes, flags %d", r.Kind, len(r.Value), r.Flags)
			}
		}
		if _, e := Join(l); e != api.OK {
			t.Errorf("%d entries: Join answers %d", n, e)
		}
	}
}

// P5.6

func randomIp(rnd *rand.Rand) api.Ip {
	var ip api.Ip
	n := 4
	if rnd.Intn(2) == 0 {
		ip.V6, n = true, 16
	}
	for i := range n {
		ip.B[i] = byte(rnd.Intn(256))
	}
	return ip
}

func randomAttrs(rnd *rand.Rand) api.Attrs {
	a := api.Attrs{Origin: rnd.Intn(3), Pref: rnd.Uint32() >> rnd.Intn(32)}
	a.Path = make([]uint32, rnd.Intn(3)*rnd.Intn(128))
	for i := range a.Path {
		a.Path[i] = rnd.Uint32()
	}
	if rnd.Intn(2) == 0 {
		a.HasMed, a.Med = true, uint32(rnd.Intn(3))
	}
	a.Originator = uint32(rnd.Intn(2)) * rnd.Uint32()
	a.Clusters = make([]uint32, rnd.Intn(3)*rnd.Intn(128))
	for i := range a.Clusters {
		a.Clusters[i] = rnd.Uint32()
	}
	a.Comms = make([]api.Comm, rnd.Intn(3)*rnd.Intn(128))
	for i := range a.Comms {
		rnd.Read(a.Comms[i][:])
	}
	switch rnd.Intn(3) {
	case 0:
		a.Pmsi = api.Pmsi{Kind: 6, Label: uint32(rnd.Intn(1 << 24)), Ip: randomIp(rnd)}
	case 1:
		if kind := 1 + rnd.Intn(255); kind != 6 {
			a.Pmsi = api.Pmsi{Kind: kind, Label: uint32(rnd.Intn(1 << 24))}
		}
	}
	return a
}

func TestWrittenIsReadAsItWas(t *testing.T) {
	rnd := rand.New(rand.NewSource(9))
	for range 3000 {
		a := randomAttrs(rnd)
		l, e := Write(a)
		if e != api.OK {
			t.Fatal(a, e)
		}
		expectRead(t, l, a, api.Fine, api.Fault{})
		b, e := Join(l)
		if e != api.OK {
			t.Fatal(a, e)
		}
		again, e := Split(b)
		expectRaws(t, again, e, l...)
		if got, class, _ := Read(again); class != api.Fine || !Same(got, a) {
			t.Errorf("%v was read as %v, %d", a, got, class)
		}
	}
}

func TestWriteEachPmsiKindIsReadAsItWas(t *testing.T) {
	for kind := range 256 {
		a := api.Attrs{Pmsi: api.Pmsi{Kind: kind}}
		if kind != 0 {
			a.Pmsi.Label = uint32(kind) << 16
		}
		l, e := Write(a)
		if e != api.OK {
			t.Fatal(kind, e)
		}
		expectRead(t, l, a, api.Fine, api.Fault{})
	}
}

// Rule 4

func TestWriteKeepsApart(t *testing.T) {
	a := whole()
	a.Path = append(make([]uint32, 0, 8), a.Path...)
	a.Comms = append(make([]api.Comm, 0, 8), a.Comms...)
	got, _ := Write(a)
	want := make([]api.Raw, len(got))
	for i, r := range got {
		want[i] = api.Raw{Flags: r.Flags, Kind: r.Kind, Value: bytes.Clone(r.Value)}
	}
	for i := range got {
		spare := got[i].Value[len(got[i].Value):cap(got[i].Value)]
		for j := range spare {
			spare[j] = 0xee
		}
	}
	expectRaws(t, got, api.OK, want...)
	for i := range got {
		for j := range got[i].Value {
			got[i].Value[j] = 0xdd
		}
	}
	if !alike(a, whole()) || a.Path[:3][2] != 0 || a.Comms[:3][2] != (api.Comm{}) {
		t.Errorf("the argument became %v", a)
	}
}

func TestChapterExampleWrite(t *testing.T) {
	expectWrite(t, api.Attrs{Pref: 100}, written(100, nil)...)
}
