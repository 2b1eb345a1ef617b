package hello

import (
	"bytes"
	"math"
	"math/rand"
	"testing"

	"weft/api"
)

// P8.1

func TestPutOfTheChapter(t *testing.T) {
	want := []byte{0x04, 0xfd, 0xe8, 0x00, 0x5a, 0x0a, 0x00, 0x00, 0x01, 0x08, 0x02, 0x06, 0x01, 0x04, 0x00, 0x19, 0x00, 0x46}
	got, e := Put(api.Hello{As: 65000, Hold: 90, Id: 0x0a000001, Evpn: true})
	if e != api.OK || !bytes.Equal(got, want) {
		t.Errorf("Put = % x, %d", got, e)
	}
	if got, e := Put(api.Hello{As: 70000, Hold: 90, Id: 0x0a000001, Evpn: true}); e != api.ErrArg || len(got) != 0 {
		t.Errorf("Put of As 70000 without Wide = % x, %d", got, e)
	}
}

func TestPutOfEachCapability(t *testing.T) {
	head := []byte{4, 0x12, 0x34, 0, 0xb4, 0xc0, 0xa8, 0x00, 0x02}
	isEvpn := []byte{1, 4, 0, 25, 0, 70}
	isRefresh := []byte{2, 0}
	isWide := []byte{65, 4, 0, 0, 0x12, 0x34}
	eachFlags(func(hasEvpn, hasRefresh, hasWide bool) {
		var l []byte
		if hasEvpn {
			l = append(l, isEvpn...)
		}
		if hasRefresh {
			l = append(l, isRefresh...)
		}
		if hasWide {
			l = append(l, isWide...)
		}
		want := append(bytes.Clone(head), 0)
		if len(l) > 0 {
			want = append(append(bytes.Clone(head), byte(len(l)+2), 2, byte(len(l))), l...)
		}
		h := api.Hello{As: 0x1234, Hold: 180, Id: 0xc0a80002, Evpn: hasEvpn, Refresh: hasRefresh, Wide: hasWide}
		if got, e := Put(h); e != api.OK || !bytes.Equal(got, want) {
			t.Errorf("Put(%+v) = % x, %d, want % x", h, got, e, want)
		}
	})
}

func TestPutOfEachAs(t *testing.T) {
	for _, x := range []struct {
		as     uint32
		isWide bool
		e      api.Errno
		short  []byte
		long   []byte
	}{
		{0, false, api.ErrArg, nil, nil},
		{0, true, api.ErrArg, nil, nil},
		{1, false, api.OK, []byte{0, 1}, nil},
		{1, true, api.OK, []byte{0, 1}, []byte{0, 0, 0, 1}},
		{23456, false, api.OK, []byte{0x5b, 0xa0}, nil},
		{23456, true, api.OK, []byte{0x5b, 0xa0}, []byte{0, 0, 0x5b, 0xa0}},
		{65535, false, api.OK, []byte{255, 255}, nil},
		{65535, true, api.OK, []byte{255, 255}, []byte{0, 0, 255, 255}},
		{65536, false, api.ErrArg, nil, nil},
		{65536, true, api.OK, []byte{0x5b, 0xa0}, []byte{0, 1, 0, 0}},
		{65537, false, api.ErrArg, nil, nil},
		{65537, true, api.OK, []byte{0x5b, 0xa0}, []byte{0, 1, 0, 1}},
		{math.MaxUint32, false, api.ErrArg, nil, nil},
		{math.MaxUint32, true, api.OK, []byte{0x5b, 0xa0}, []byte{255, 255, 255, 255}},
	} {
		got, e := Put(api.Hello{As: x.as, Id: 1, Wide: x.isWide})
		var want []byte
		if x.e == api.OK {
			want = append([]byte{4}, x.short...)
			want = append(want, 0, 0, 0, 0, 0, 1)
			if x.isWide {
				want = append(want, 8, 2, 6, 65, 4)
				want = append(want, x.long...)
			} else {
				want = append(want, 0)
			}
		}
		if e != x.e || !bytes.Equal(got, want) {
			t.Errorf("Put of As %d, Wide %v = % x, %d, want % x, %d", x.as, x.isWide, got, e, want, x.e)
		}
	}
}

func TestPutOfEachHold(t *testing.T) {
	for _, x := range []struct {
		hold int
		e    api.Errno
	}{
		{math.MinInt, api.ErrArg}, {-65536, api.ErrArg}, {-65533, api.ErrArg}, {-1, api.ErrArg},
		{0, api.OK}, {1, api.ErrArg}, {2, api.ErrArg}, {3, api.OK}, {4, api.OK}, {255, api.OK}, {256, api.OK},
		{65534, api.OK}, {65535, api.OK}, {65536, api.ErrArg}, {65539, api.ErrArg}, {math.MaxInt, api.ErrArg},
	} {
		got, e := Put(api.Hello{As: 1, Hold: x.hold, Id: 0x01020304})
		if e != x.e {
			t.Errorf("Put of Hold %d: error %d", x.hold, e)
		}
		want := []byte{4, 0, 1, byte(x.hold >> 8), byte(x.hold), 1, 2, 3, 4, 0}
		if e == api.OK && !bytes.Equal(got, want) || e != api.OK && len(got) != 0 {
			t.Errorf("Put of Hold %d = % x", x.hold, got)
		}
	}
}

func TestPutOfEachId(t *testing.T) {
	for _, id := range []uint32{0, 1, 255, 256, 0x0a000001, math.MaxUint32} {
		got, e := Put(api.Hello{As: 1, Id: id})
		if id == 0 {
			if e != api.ErrArg || len(got) != 0 {
				t.Errorf("Put of Id 0 = % x, %d", got, e)
			}
			continue
		}
		want := []byte{4, 0, 1, 0, 0, byte(id >> 24), byte(id >> 16), byte(id >> 8), byte(id), 0}
		if e != api.OK || !bytes.Equal(got, want) {
			t.Errorf("Put of Id %d = % x, %d", id, got, e)
		}
	}
}

func TestPutAnswersNewMemory(t *testing.T) {
	h := api.Hello{As: 70000, Hold: 90, Id: 1, Evpn: true, Refresh: true, Wide: true}
	first, _ := Put(h)
	want := bytes.Clone(first)
	scribble(first)
	if got, e := Put(h); e != api.OK || !bytes.Equal(got, want) {
		t.Errorf("Put behind a change of its answer = % x, %d", got, e)
	}
}

// P8.4

func TestPutFaultOfEachCode(t *testing.T) {
	for _, n := range []int{math.MinInt, -256, -255, -1, 0, 1, 6, 127, 128, 254, 255, 256, 257, 512, 1 << 32, math.MaxInt} {
		isRight := n >= 0 && n <= 255
		for _, f := range []api.Fault{{Code: n, Sub: 5, Data: []byte{9, 8}}, {Code: 5, Sub: n, Data: []byte{9, 8}}, {Code: n, Sub: n, Data: []byte{9, 8}}} {
			got, e := PutFault(f)
			if !isRight && (e != api.ErrArg || len(got) != 0) {
				t.Errorf("PutFault(%v) = % x, %d", f, got, e)
			}
			if isRight && (e != api.OK || !bytes.Equal(got, []byte{byte(f.Code), byte(f.Sub), 9, 8})) {
				t.Errorf("PutFault(%v) = % x, %d", f, got, e)
			}
		}
	}
}

func TestPutFaultOfEachLength(t *testing.T) {
	room := make([]byte, 70000)
	for i := range room {
		room[i] = byte(7*i + 3)
	}
	for _, n := range []int{0, 1, 2, 255, 256, 4074, 4075, 4076, 4077, 4078, 65536, 65538, 70000} {
		got, e := PutFault(api.Fault{Code: 6, Sub: 2, Data: room[:n]})
		if n <= api.MaxBody-2 {
			if e != api.OK || !bytes.Equal(got, append([]byte{6, 2}, room[:n]...)) {
				t.Errorf("PutFault of %d bytes: %d bytes, %d", n, len(got), e)
			}
		} else if e != api.ErrFull || len(got) != 0 {
			t.Errorf("PutFault of %d bytes: %d bytes, %d", n, len(got), e)
		}
		// Where both errors apply, the chapter names ErrArg first.
		for _, f := range []api.Fault{{Code: -1, Data: room[:n]}, {Sub: 256, Data: room[:n]}} {
			if got, e := PutFault(f); e != api.ErrArg || len(got) != 0 {
				t.Errorf("PutFault(%d, %d, %d bytes): %d bytes, %d", f.Code, f.Sub, n, len(got), e)
			}
		}
	}
	for _, none := range [][]byte{nil, {}} {
		if got, e := PutFault(api.Fault{Data: none}); e != api.OK || !bytes.Equal(got, []byte{0, 0}) {
			t.Errorf("PutFault of no data = % x, %d", got, e)
		}
	}
}

func TestPutFaultLeavesItsArgumentAlone(t *testing.T) {
	room := []byte{1, 2, 3, 4, 5, 6, 7, 8}
	f := api.Fault{Code: 3, Sub: 9, Data: room[2:4]}
	got, _ := PutFault(f)
	if want := []byte{3, 9, 3, 4}; !bytes.Equal(got, want) {
		t.Errorf("PutFault = % x", got)
	}
	scribble(got)
	if !bytes.Equal(room, []byte{1, 2, 3, 4, 5, 6, 7, 8}) || !sameFault(f, api.Fault{Code: 3, Sub: 9, Data: room[2:4]}) {
		t.Errorf("the argument is now %v, its room % x", f, room)
	}
	kept, _ := PutFault(f)
	scribble(room)
	if !bytes.Equal(kept, []byte{3, 9, 3, 4}) {
		t.Errorf("the answer follows its argument: % x", kept)
	}
}

func TestPutRefresh(t *testing.T) {
	for range 3 {
		got := PutRefresh()
		if !bytes.Equal(got, []byte{0, 25, 0, 70}) || !ReadRefresh(got) {
			t.Fatalf("PutRefresh = % x", got)
		}
		scribble(got)
	}
	// A change of that answer must not reach the others that tell the family.
	b, _ := Put(api.Hello{As: 1, Id: 1, Evpn: true})
	if !bytes.HasSuffix(b, familyCapability) {
		t.Errorf("Put behind a change of PutRefresh's answer = % x", b)
	}
	if h, _, is := Read(b); !is || !h.Evpn {
		t.Errorf("Read behind a change of PutRefresh's answer = %v, %v", h, is)
	}
}

// P8.6

func TestWhatIsPutIsReadAsItWas(t *testing.T) {
	r := rand.New(rand.NewSource(6))
	put := 0
	for range 20000 {
		h := anyHello(r)
		b, e := Put(h)
		if e != api.OK {
			continue
		}
		put++
		got, f, is := Read(b)
		if !is || got != h || !sameFault(f, api.Fault{}) {
			t.Fatalf("Put(%+v) = % x; Read = %+v, %v, %v", h, b, got, f, is)
		}
		if len(b) > api.MaxBody {
			t.Fatalf("Put(%+v) has %d bytes", h, len(b))
		}
	}
	if put < 1000 {
		t.Errorf("only %d hellos were put", put)
	}
	for range 2000 {
		f := api.Fault{Code: r.Intn(256), Sub: r.Intn(256), Data: make([]byte, r.Intn(api.MaxBody-1))}
		r.Read(f.Data)
		b, e := PutFault(f)
		got, eToo := ReadFault(b)
		if e != api.OK || eToo != api.OK || !sameFault(got, f) {
			t.Fatalf("PutFault(%v): error %d; ReadFault = %v, %d", f, e, got, eToo)
		}
	}
}
