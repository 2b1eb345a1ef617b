package frame

import (
	"bytes"
	"math"
	"testing"

	"weft/api"
)

// bounds are the kinds and their bodies as the chapter lists them.
var bounds = []struct{ kind, least, most int }{
	{1, 10, 4077},
	{2, 4, 4077},
	{3, 2, 4077},
	{4, 0, 0},
	{5, 4, 4},
}

// noKinds are numbers that are no kind, also where only their lowest byte would be one.
var noKinds = []int{math.MinInt, math.MinInt32, -256, -255, -252, -4, -1, 0, 6, 7, 9, 19, 255, 256, 257, 260, 65536 + 2, 1<<32 + 1, math.MaxInt32, math.MaxInt}

// body answers n bytes, no two neighbours alike.
func body(n int) []byte {
	out := make([]byte, n)
	for i := range out {
		out[i] = byte(7*i + 3)
	}
	return out
}

// header answers a header that says just this, right or not.
func header(length, kind int) []byte {
	return append(bytes.Repeat([]byte{255}, 16), byte(length>>8), byte(length), byte(kind))
}

// put answers the bytes of a message that is right.
func put(t *testing.T, kind int, b []byte) []byte {
	t.Helper()
	out, e := Put(api.Message{Kind: kind, Body: b})
	if e != api.OK {
		t.Fatalf("Put(%d, %d bytes): error %d", kind, len(b), e)
	}
	return out
}

// P3.1

func TestLeast(t *testing.T) {
	for _, r := range bounds {
		if least, most := Least(r.kind); least != r.least || most != r.most {
			t.Errorf("Least(%d) = %d, %d", r.kind, least, most)
		}
	}
	for _, kind := range noKinds {
		if least, most := Least(kind); least != 0 || most != 0 {
			t.Errorf("Least(%d) = %d, %d", kind, least, most)
		}
	}
}

func TestPutBodiesOfEverySize(t *testing.T) {
	room := body(4200)
	for _, r := range bounds {
		for n := range len(room) + 1 {
			want := api.OK
			if n < r.least {
				want = api.ErrShort
			} else if n > r.most {
				want = api.ErrFull
			}
			got, e := Put(api.Message{Kind: r.kind, Body: room[:n]})
			if e != want {
				t.Errorf("Put(%d, %d bytes): error %d, want %d", r.kind, n, e, want)
			}
			if e != api.OK && len(got) != 0 {
				t.Errorf("Put(%d, %d bytes) = % x beside an error", r.kind, n, got)
			}
			if e == api.OK && !bytes.Equal(got, append(header(19+n, r.kind), room[:n]...)) {
				t.Errorf("Put(%d, %d bytes) = % x", r.kind, n, got)
			}
		}
	}
}

func TestPutWithoutABody(t *testing.T) {
	for _, none := range [][]byte{nil, {}} {
		for _, r := range bounds {
			got, e := Put(api.Message{Kind: r.kind, Body: none})
			if r.kind == api.Keepalive {
				if e != api.OK || !bytes.Equal(got, header(19, 4)) {
					t.Errorf("Put(%d, none) = % x, %d", r.kind, got, e)
				}
			} else if e != api.ErrShort || len(got) != 0 {
				t.Errorf("Put(%d, none) = % x, %d", r.kind, got, e)
			}
		}
	}
}

func TestPutFarTooMuch(t *testing.T) {
	// 65536 bytes more than would fit: a length that went round in two bytes would be right again.
	for _, r := range bounds {
		for _, n := range []int{65536 + r.least, 65536 - 19, 1 << 20} {
			if got, e := Put(api.Message{Kind: r.kind, Body: make([]byte, n)}); e != api.ErrFull || len(got) != 0 {
				t.Errorf("Put(%d, %d bytes) = % x, %d", r.kind, n, got, e)
			}
		}
	}
}

func TestPutNoKind(t *testing.T) {
	// Other errors apply beside it: the kind is named first.
	for _, kind := range noKinds {
		for _, n := range []int{0, 1, 4, 10, 4077, 4078, 5000} {
			if got, e := Put(api.Message{Kind: kind, Body: make([]byte, n)}); e != api.ErrArg || len(got) != 0 {
				t.Errorf("Put(%d, %d bytes) = % x, %d", kind, n, got, e)
			}
		}
	}
}

func TestPutLeavesItsArgumentAlone(t *testing.T) {
	room := body(40)
	first := put(t, api.Updates, room[:20])
	second := put(t, api.Updates, room[:20])
	if !bytes.Equal(room, body(40)) {
		t.Errorf("the argument is now % x", room)
	}

	room[0]++
	if !bytes.Equal(first[19:], body(20)) {
		t.Errorf("the answer follows its argument: % x", first)
	}

	room[0]--
	spare := first[:cap(first)]
	for i := range spare {
		spare[i] = 7
	}
	if !bytes.Equal(room, body(40)) || !bytes.Equal(second, append(header(39, 2), body(20)...)) {
		t.Errorf("the answer is shared: % x, % x", room, second)
	}
}
