package nlri

import (
	"bytes"
	"math/rand"
	"slices"
	"testing"

	"weft/addr"
	"weft/api"
)

func expectRoutes(t *testing.T, got []api.Route, wrong int, e api.Errno, wantWrong int, want ...api.Route) {
	t.Helper()
	if e != api.OK || wrong != wantWrong || !slices.Equal(got, want) {
		t.Errorf("got %+v, %d, error %d; want %+v, %d", got, wrong, e, want, wantWrong)
	}
}

func expectRead(t *testing.T, b []byte, wantWrong int, want ...api.Route) {
	t.Helper()
	l, wrong, e := Read(b)
	expectRoutes(t, l, wrong, e, wantWrong, want...)
}

func expectShort(t *testing.T, b []byte) {
	t.Helper()
	if l, wrong, e := Read(b); e != api.ErrShort || len(l) != 0 || wrong != 0 {
		t.Errorf("Read(% x) = %+v, %d, %d", b, l, wrong, e)
	}
}

// P6.2

func TestReadNothing(t *testing.T) {
	expectRead(t, nil, 0)
	expectRead(t, []byte{}, 0)
	expectRead(t, make([]byte, 0, 9), 0)
}

func TestRead(t *testing.T) {
	for _, s := range samples(t) {
		expectRead(t, framed(s.r.Kind, s.body), 0, s.r)
	}
}

func TestReadInOrder(t *testing.T) {
	l := samples(t)
	for _, step := range []int{1, 4, 5, 12} {
		var b []byte
		var want []api.Route
		for i := range 3 * len(l) {
			s := l[i*step%len(l)]
			b = append(b, framed(s.r.Kind, s.body)...)
			want = append(want, s.r)
		}
		expectRead(t, b, 0, want...)
	}
}

func TestReadChapterExamples(t *testing.T) {
	expectRead(t, []byte{3, 1, 7}, 1)
	expectRead(t, []byte{9, 1, 7}, 0)
	expectShort(t, []byte{3, 2, 7})
}

func TestReadOtherKinds(t *testing.T) {
	l := samples(t)
	for kind := range 256 {
		if kind >= 1 && kind <= 5 {
			continue
		}
		expectRead(t, []byte{byte(kind), 0}, 0)
		expectRead(t, framed(kind, make([]byte, 255)), 0)
		for _, s := range l {
			other := framed(kind, s.body)
			known := framed(s.r.Kind, s.body)
			expectRead(t, other, 0)
			expectRead(t, join(other, known), 0, s.r)
			expectRead(t, join(known, other), 0, s.r)
			expectRead(t, join(known, other, []byte{3, 1, 7}, other, known), 1, s.r, s.r)
		}
	}
}

// A route of any kind that goes beyond the bytes ends it, whatever stands ahead of it.
func TestReadBeyondItsBytes(t *testing.T) {
	flood := samples(t)[7]
	ahead := [][]byte{nil, framed(flood.r.Kind, flood.body), {3, 1, 7}, {9, 1, 7}, join([]byte{1, 0}, framed(flood.r.Kind, flood.body), []byte{200, 0})}
	for kind := range 256 {
		tails := [][]byte{
			{byte(kind)}, {byte(kind), 1}, {byte(kind), 255}, {byte(kind), 2, 7}, {byte(kind), 17, 0},
			framed(kind, make([]byte, 255))[:256], framed(kind, make([]byte, 17))[:18],
		}
		for _, tail := range tails {
			for _, a := range ahead {
				expectShort(t, join(a, tail))
			}
		}
	}
}

func TestReadAtEveryCut(t *testing.T) {
	var b []byte
	var all []api.Route
	count := map[int]int{0: 0}
	for _, s := range samples(t) {
		b = append(b, framed(s.r.Kind, s.body)...)
		all = append(all, s.r)
		count[len(b)] = len(all)
	}
	for n := range len(b) + 1 {
		if k, is := count[n]; is {
			expectRead(t, b[:n], 0, all[:k]...)
		} else {
			expectShort(t, b[:n])
		}
	}
}

// Each known kind with each length there is.
func TestReadEveryLength(t *testing.T) {
	for _, s := range samples(t) {
		long := join(s.body, bytes.Repeat([]byte{1}, 255))
		for n := range 256 {
			b := framed(s.r.Kind, long[:n])
			if n == len(s.body) {
				expectRead(t, b, 0, s.r)
				continue
			}
			if s.r.Kind == api.RMac && n == len(s.body)+3 && s.r.Label2 == 0 {
				r := s.r
				r.Label2 = 0x010101
				expectRead(t, b, 0, r)
				continue
			}
			if s.r.Kind == api.RMac && n == len(s.body)-3 && s.r.Label2 != 0 {
				r := s.r
				r.Label2 = 0
				expectRead(t, b, 0, r)
				continue
			}
			if s.r.Kind == api.RPrefix && !s.r.Ip.Ip.V6 && n == 58 {
				continue // the length of the other family
			}
			expectRead(t, b, 1)
		}
	}
}

func TestReadEmptyOfKnownKinds(t *testing.T) {
	expectRead(t, []byte{1, 0, 2, 0, 3, 0, 4, 0, 5, 0}, 5)
}

func TestReadTheByteOfTheMac(t *testing.T) {
	for _, s := range samples(t) {
		if s.r.Kind != api.RMac {
			continue
		}
		for n := range 256 {
			body := bytes.Clone(s.body)
			body[22] = byte(n)
			if n == 48 {
				expectRead(t, framed(2, body), 0, s.r)
			} else {
				expectRead(t, framed(2, body), 1)
			}
		}
	}
}

// lengthAt is where the byte Ip.Len of a kind stands.
func lengthAt(kind int) int {
	switch kind {
	case api.RMac:
		return 29
	case api.RFlood:
		return 12
	case api.REs:
		return 18
	}
	return 22
}

// With another byte Ip.Len the bytes of a whole address don't fit.
func TestReadTheByteOfTheAddress(t *testing.T) {
	for _, s := range samples(t) {
		if s.r.Kind == api.RSegment || s.r.Kind == api.RPrefix {
			continue
		}
		for n := range 256 {
			body := bytes.Clone(s.body)
			body[lengthAt(s.r.Kind)] = byte(n)
			if n == s.r.Ip.Len {
				expectRead(t, framed(s.r.Kind, body), 0, s.r)
			} else {
				expectRead(t, framed(s.r.Kind, body), 1)
			}
		}
	}
}

// The byte Ip.Len 0 is a card's alone, even where no address stands behind it.
func TestReadWithoutAddress(t *testing.T) {
	expectRead(t, framed(2, join(make([]byte, 22), []byte{48}, make([]byte, 10))), 0, api.Route{Kind: api.RMac})
	expectRead(t, framed(3, make([]byte, 13)), 1)
	expectRead(t, framed(3, make([]byte, 17)), 1)
	expectRead(t, framed(3, make([]byte, 29)), 1)
	expectRead(t, framed(4, make([]byte, 19)), 1)
	expectRead(t, framed(4, make([]byte, 23)), 1)
	expectRead(t, framed(4, make([]byte, 35)), 1)
}

func TestReadLengthsOfPrefixes(t *testing.T) {
	for n := range 256 {
		four, six := make([]byte, 34), make([]byte, 58)
		four[22], six[22] = byte(n), byte(n)
		if n <= 32 {
			expectRead(t, framed(5, four), 0, api.Route{Kind: api.RPrefix, Ip: api.Prefix{Len: n}})
		} else {
			expectRead(t, framed(5, four), 1)
		}
		if n <= 128 {
			v6 := api.Ip{V6: true}
			expectRead(t, framed(5, six), 0, api.Route{Kind: api.RPrefix, Ip: api.Prefix{Ip: v6, Len: n}, Gw: v6})
		} else {
			expectRead(t, framed(5, six), 1)
		}
	}
	for n := range 256 {
		if n != 34 && n != 58 {
			expectRead(t, framed(5, make([]byte, n)), 1)
		}
	}
}

func TestReadBitsBehindAPrefix(t *testing.T) {
	for _, size := range []int{34, 58} {
		bits := 32
		if size == 58 {
			bits = 128
		}
		for n := range bits + 1 {
			for bit := range bits {
				body := make([]byte, size)
				body[22] = byte(n)
				body[23+bit/8] = 128 >> (bit % 8)
				l, wrong, e := Read(framed(5, body))
				isRight := bit < n
				if e != api.OK || isRight != (len(l) == 1) || isRight != (wrong == 0) || len(l)+wrong != 1 {
					t.Errorf("%d bytes, Len %d, bit %d: %v, %d, %d", size, n, bit, l, wrong, e)
				}
			}
		}
	}
}

func TestReadSecondLabelOfNothing(t *testing.T) {
	for _, s := range samples(t) {
		if s.r.Kind != api.RMac || s.r.Label2 != 0 {
			continue
		}
		expectRead(t, framed(2, join(s.body, []byte{0, 0, 0})), 0, s.r)
		for _, tail := range [][]byte{{0}, {0, 0}, {0, 0, 0, 0}, {0, 0, 0, 0, 0, 0}} {
			expectRead(t, framed(2, join(s.body, tail)), 1)
		}
	}
	for _, s := range samples(t) {
		if s.r.Kind != api.RMac {
			expectRead(t, framed(s.r.Kind, join(s.body, []byte{0, 0, 0})), 1)
		}
	}
}

func TestReadCountsWhatIsWrong(t *testing.T) {
	s := samples(t)[0]
	right := framed(s.r.Kind, s.body)
	b := join([]byte{1, 0}, right, []byte{2, 1, 9}, []byte{7, 3, 1, 1, 1}, []byte{5, 2, 0, 0}, right, []byte{0, 0}, []byte{4, 0})
	expectRead(t, b, 4, s.r, s.r)
	expectRead(t, bytes.Repeat([]byte{3, 1, 7}, 1000), 1000)
	expectRead(t, bytes.Repeat([]byte{6, 1, 7}, 1000), 0)
}

// Rule 4

func TestReadLeavesItsArgument(t *testing.T) {
	var b []byte
	for _, s := range samples(t) {
		b = append(b, framed(s.r.Kind, s.body)...)
	}
	b = append(b, 3, 1, 7, 9, 1, 7)
	room := append(bytes.Clone(b), bytes.Repeat([]byte{9}, 50)...)
	kept := bytes.Clone(room)
	l, _, e := Read(room[:len(b)])
	if e != api.OK || !bytes.Equal(room, kept) {
		t.Errorf("the argument became % x, %d", room, e)
	}
	want := slices.Clone(l)
	clear(room)
	if !slices.Equal(l, want) {
		t.Errorf("the answer became %v", l)
	}
}

// P6.4

func TestReadOfWhatWasPut(t *testing.T) {
	var all []byte
	l := rightRoutes(t)
	for _, r := range l {
		b, e := Put(nil, r)
		if e != api.OK {
			t.Fatalf("Put(%+v): %d", r, e)
		}
		expectRead(t, b, 0, r)
		all = append(all, b...)
	}
	expectRead(t, all, 0, l...)
}

func randomIp(rnd *rand.Rand, isSix bool) api.Ip {
	if !isSix {
		return addr.Four(rnd.Uint32())
	}
	a := api.Ip{V6: true}
	rnd.Read(a.B[:])
	return a
}

func randomRoute(rnd *rand.Rand) api.Route {
	r := api.Route{Kind: 1 + rnd.Intn(5)}
	rnd.Read(r.Rd[:])
	isSix := rnd.Intn(2) == 0
	a := randomIp(rnd, isSix)
	whole := api.Prefix{Ip: a, Len: addr.Bits(a)}
	if r.Kind != api.RFlood {
		rnd.Read(r.Esi[:])
	}
	if r.Kind != api.REs {
		r.Tag = rnd.Uint32()
	}
	if r.Kind == api.RSegment || r.Kind == api.RMac || r.Kind == api.RPrefix {
		r.Label = uint32(rnd.Intn(api.MaxLabel + 1))
	}
	switch r.Kind {
	case api.RMac:
		rnd.Read(r.Mac[:])
		if rnd.Intn(3) > 0 {
			r.Ip = whole
		}
		if rnd.Intn(2) > 0 {
			r.Label2 = uint32(rnd.Intn(api.MaxLabel + 1))
		}
	case api.RFlood, api.REs:
		r.Ip = whole
	case api.RPrefix:
		r.Ip, _ = addr.Cut(a, rnd.Intn(addr.Bits(a)+1))
		r.Gw = randomIp(rnd, isSix)
	}
	return r
}

func TestReadOfRandomRoutes(t *testing.T) {
	rnd := rand.New(rand.NewSource(6))
	for range 2000 {
		l := make([]api.Route, rnd.Intn(6))
		var b []byte
		for i := range l {
			l[i] = randomRoute(rnd)
			x, e := Put(b, l[i])
			if e != api.OK {
				t.Fatalf("Put(%+v): %d", l[i], e)
			}
			b = x
		}
		expectRead(t, b, 0, l...)
	}
}

// isPutOf tells whether b is a route as Put writes it, or one with a Label2 of 0 behind it.
func isPutOf(b []byte, r api.Route) bool {
	put, e := Put(nil, r)
	if e != api.OK {
		return false
	}
	if r.Kind == api.RMac && r.Label2 == 0 && bytes.Equal(b, framed(2, join(put[2:], []byte{0, 0, 0}))) {
		return true
	}
	return bytes.Equal(b, put)
}

// What is read of spoilt bytes is right, and its bytes are the ones that were read; what is put of it is read as the same.
func TestPutOfWhatWasRead(t *testing.T) {
	rnd := rand.New(rand.NewSource(7))
	read, wrong := 0, 0
	for range 30000 {
		b, e := Put(nil, randomRoute(rnd))
		if e != api.OK {
			t.Fatal(e)
		}
		for range rnd.Intn(3) {
			b[2+rnd.Intn(len(b)-2)] ^= 1 << rnd.Intn(8)
		}
		if rnd.Intn(4) == 0 {
			b[0] = byte(1 + rnd.Intn(5))
		}
		if rnd.Intn(4) == 0 {
			body := join(b[2:], make([]byte, 1+rnd.Intn(4)))
			b = framed(int(b[0]), body)
		}
		l, n, e := Read(b)
		if e != api.OK || len(l)+n != 1 {
			t.Fatalf("Read(% x) = %v, %d, %d", b, l, n, e)
		}
		wrong += n
		for _, r := range l {
			read++
			expectRight(t, r)
			if !isPutOf(b, r) {
				t.Errorf("% x is read as %+v", b, r)
			}
			again, e := Put(nil, r)
			if e != api.OK {
				t.Fatalf("Put(%+v): %d", r, e)
			}
			expectRead(t, again, 0, r)
		}
	}
	if read < 1000 || wrong < 1000 {
		t.Errorf("only %d of them were read, %d were not", read, wrong)
	}
}

// P1: whatever the bytes are, Read ends.
func TestReadAnyBytes(t *testing.T) {
	rnd := rand.New(rand.NewSource(8))
	for range 20000 {
		b := make([]byte, rnd.Intn(80))
		for i := range b {
			b[i] = byte(rnd.Intn(256))
			if rnd.Intn(2) == 0 {
				b[i] = byte(rnd.Intn(7))
			}
		}
		l, n, e := Read(b)
		if e != api.OK && (e != api.ErrShort || len(l) > 0 || n != 0) {
			t.Errorf("Read(% x) = %v, %d, %d", b, l, n, e)
		}
	}
}
