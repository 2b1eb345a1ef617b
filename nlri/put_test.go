package nlri

import (
	"bytes"
	"testing"

	"weft/api"
)

// P6.1: Put

func TestPut(t *testing.T) {
	for _, s := range samples(t) {
		for _, ahead := range [][]byte{nil, {}, {7}, {3, 1, 7}, bytes.Repeat([]byte{255}, 5000)} {
			got, e := Put(ahead, s.r)
			want := join(ahead, framed(s.r.Kind, s.body))
			if e != api.OK || !bytes.Equal(got, want) {
				t.Errorf("%s: % x, %d; want % x", s.name, got, e, want)
			}
		}
	}
}

func TestPutSizes(t *testing.T) {
	sizes := []int{25, 33, 36, 37, 40, 49, 52, 17, 29, 23, 35, 34, 58}
	for i, s := range samples(t) {
		got, e := Put(nil, s.r)
		if e != api.OK || len(got) != 2+sizes[i] || int(got[1]) != sizes[i] {
			t.Errorf("%s: %d bytes, %d; want %d", s.name, len(got), e, 2+sizes[i])
		}
	}
}

// A prefix's length of 0 says nothing of whether its address stands there.
func TestPutEmptyPrefix(t *testing.T) {
	got, e := Put(nil, api.Route{Kind: api.RPrefix})
	if e != api.OK || !bytes.Equal(got, framed(5, make([]byte, 34))) {
		t.Errorf("% x, %d", got, e)
	}
	six := api.Ip{V6: true}
	got, e = Put(nil, api.Route{Kind: api.RPrefix, Ip: api.Prefix{Ip: six}, Gw: six})
	if e != api.OK || !bytes.Equal(got, framed(5, make([]byte, 58))) {
		t.Errorf("% x, %d", got, e)
	}
}

func TestPutOneBehindTheOther(t *testing.T) {
	var got, want []byte
	for _, s := range samples(t) {
		b, e := Put(got, s.r)
		if e != api.OK {
			t.Fatal(s.name, e)
		}
		got = b
		want = append(want, framed(s.r.Kind, s.body)...)
	}
	if !bytes.Equal(got, want) {
		t.Errorf("% x; want % x", got, want)
	}
}

func TestPutChapterExample(t *testing.T) {
	r := api.Route{Kind: api.RFlood, Rd: api.Rd{0x00, 0x01, 0x0a, 0x00, 0x00, 0x01, 0x00, 0x64}, Ip: prefix(t, "10.0.0.1/32")}
	want := []byte{3, 17, 0, 1, 10, 0, 0, 1, 0, 100, 0, 0, 0, 0, 32, 10, 0, 0, 1}
	if got, e := Put(nil, r); e != api.OK || !bytes.Equal(got, want) {
		t.Errorf("% x, %d", got, e)
	}
	l, wrong, e := Read(want)
	expectRoutes(t, l, wrong, e, 0, r)
}

// Rule 4

func TestPutLeavesItsArgument(t *testing.T) {
	for _, s := range samples(t) {
		room := bytes.Repeat([]byte{9}, 200)
		b := room[:3:200]
		first, e := Put(b, s.r)
		if e != api.OK {
			t.Fatal(s.name, e)
		}
		second, _ := Put(b, api.Route{Kind: api.RSegment})
		if !bytes.Equal(room, bytes.Repeat([]byte{9}, 200)) {
			t.Errorf("%s: the argument became % x", s.name, room)
		}
		kept := bytes.Clone(first)
		clear(b)
		clear(second[:cap(second)])
		if !bytes.Equal(first, kept) {
			t.Errorf("%s: the answer became % x", s.name, first)
		}
	}
}

func TestPutRefusedLeavesItsArgument(t *testing.T) {
	room := bytes.Repeat([]byte{9}, 100)
	if got, e := Put(room[:3:100], api.Route{Kind: 9}); e != api.ErrArg || got != nil {
		t.Errorf("% x, %d", got, e)
	}
	if !bytes.Equal(room, bytes.Repeat([]byte{9}, 100)) {
		t.Errorf("the argument became % x", room)
	}
}
