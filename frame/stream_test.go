package frame

import (
	"bytes"
	"testing"

	"weft/api"
)

func sameMessages(got, want []api.Message) bool {
	if len(got) != len(want) {
		return false
	}
	for i := range got {
		if got[i].Kind != want[i].Kind || !bytes.Equal(got[i].Body, want[i].Body) {
			return false
		}
	}
	return true
}

func expectMessages(t *testing.T, got []api.Message, want ...api.Message) {
	t.Helper()
	if !sameMessages(got, want) {
		t.Errorf("got %v, want %v", got, want)
	}
}

// expectWaits asks for a stream without a fault.
func expectWaits(t *testing.T, s *Stream, waits int) {
	t.Helper()
	f, is := s.Fault()
	if is || f.Code != 0 || f.Sub != 0 || len(f.Data) != 0 || s.Waits() != waits {
		t.Errorf("Fault %v, %v, Waits %d; want none, %d", f, is, s.Waits(), waits)
	}
}

func expectFault(t *testing.T, s *Stream, code, sub int, data ...byte) {
	t.Helper()
	f, is := s.Fault()
	if !is || f.Code != code || f.Sub != sub || !bytes.Equal(f.Data, data) || s.Waits() != 0 {
		t.Errorf("Fault %v, %v, Waits %d; want %d, %d, % x", f, is, s.Waits(), code, sub, data)
	}
}

// fed answers a stream to which b came in one piece.
func fed(b []byte) (*Stream, []api.Message) {
	s := New()
	return s, s.Feed(b)
}

func keepalive() []byte {
	return header(19, 4)
}

// some are messages of every kind, at both ends of their bounds and between, with bytes that look like headers too.
func some() []api.Message {
	return []api.Message{
		{Kind: api.Keepalive},
		{Kind: api.Open, Body: body(10)},
		{Kind: api.Keepalive},
		{Kind: api.Keepalive},
		{Kind: api.Notification, Body: []byte{255, 255}},
		{Kind: api.Updates, Body: append(keepalive(), keepalive()...)},
		{Kind: api.Refresh, Body: []byte{0, 0, 0, 0}},
		{Kind: api.Notification, Body: bytes.Repeat([]byte{255}, 37)},
		{Kind: api.Updates, Body: body(4)},
		{Kind: api.Open, Body: body(256 - 19)},
	}
}

func joined(t *testing.T, list []api.Message) []byte {
	t.Helper()
	var out []byte
	for _, m := range list {
		out = append(out, put(t, m.Kind, m.Body)...)
	}
	return out
}

// P3.2

func TestNewHasNothing(t *testing.T) {
	s := New()
	if s == nil {
		t.Fatal("no stream")
	}
	expectWaits(t, s, 0)
	for _, none := range [][]byte{nil, {}} {
		expectMessages(t, s.Feed(none))
		expectWaits(t, s, 0)
	}
	s.Feed([]byte{255, 255})
	expectWaits(t, New(), 0)
}

func TestHeaderIsLookedAtOnceWhole(t *testing.T) {
	// All of it is wrong, and yet nothing is till its last byte has come.
	s := New()
	for i := range 18 {
		expectMessages(t, s.Feed([]byte{0}))
		expectWaits(t, s, i+1)
	}
	expectMessages(t, s.Feed([]byte{0}))
	expectFault(t, s, 1, 1)
}

func TestHeaderIsLookedAtAheadOfItsBody(t *testing.T) {
	s, got := fed(header(4097, 2))
	expectMessages(t, got)
	expectFault(t, s, 1, 2, 16, 1)
	s, got = fed(header(4096, 2))
	expectMessages(t, got)
	expectWaits(t, s, 19)
}

func TestMarkerTurned(t *testing.T) {
	for at := range 16 {
		for bit := range 8 {
			b := keepalive()
			b[at] ^= 1 << bit
			s, got := fed(b)
			expectMessages(t, got)
			expectFault(t, s, 1, 1)
		}
		for _, x := range []byte{0, 1, 127, 254} {
			b := keepalive()
			b[at] = x
			s, got := fed(b)
			expectMessages(t, got)
			expectFault(t, s, 1, 1)
		}
	}
}

// Every header whose marker is right, against the chapter's order of looking.
func TestEveryLengthAndKind(t *testing.T) {
	for length := range 65536 {
		for kind := range 8 {
			checkHeader(t, length, kind)
		}
	}
	for kind := range 256 {
		for _, length := range []int{0, 1, 18, 19, 20, 21, 22, 23, 24, 28, 29, 30, 255, 256, 4095, 4096, 4097, 65535} {
			checkHeader(t, length, kind)
		}
	}
}

func checkHeader(t *testing.T, length, kind int) {
	t.Helper()
	s, got := fed(header(length, kind))
	low, high := byte(length), byte(length>>8)
	switch {
	case length < 19 || length > 4096:
		expectFault(t, s, 1, 2, high, low)
	case kind < 1 || kind > 5:
		expectFault(t, s, 1, 3, byte(kind))
	case length-19 < bounds[kind-1].least || length-19 > bounds[kind-1].most:
		expectFault(t, s, 1, 2, high, low)
	case length == 19:
		expectMessages(t, got, api.Message{Kind: kind})
		expectWaits(t, s, 0)
		return
	default:
		expectWaits(t, s, 19)
	}
	expectMessages(t, got)
	if t.Failed() {
		t.Fatalf("length %d, kind %d", length, kind)
	}
}

func TestWhichFaultIsTold(t *testing.T) {
	all := header(18, 9)
	all[0] = 254
	s, _ := fed(all)
	expectFault(t, s, 1, 1)

	last := header(19, 9)
	last[15] = 0
	s, _ = fed(last)
	expectFault(t, s, 1, 1)

	s, _ = fed(header(18, 9))
	expectFault(t, s, 1, 2, 0, 18)
	s, _ = fed(header(4097, 0))
	expectFault(t, s, 1, 2, 16, 1)
	s, _ = fed(header(19, 9))
	expectFault(t, s, 1, 3, 9)
	s, _ = fed(header(4096, 255))
	expectFault(t, s, 1, 3, 255)
	s, _ = fed(header(4096, 4))
	expectFault(t, s, 1, 2, 16, 0)
}

func TestLengthsAtTheBoundsOfEachKind(t *testing.T) {
	for _, r := range bounds {
		for n := max(0, r.least-2); n <= r.least+2; n++ {
			checkBody(t, r.kind, n, n >= r.least && n <= r.most)
		}
		for n := r.most - 1; n <= r.most+2; n++ {
			if n >= 0 {
				checkBody(t, r.kind, n, n >= r.least && n <= r.most)
			}
		}
	}
}

func checkBody(t *testing.T, kind, n int, right bool) {
	t.Helper()
	s, got := fed(append(header(19+n, kind), body(n)...))
	if right {
		expectMessages(t, got, api.Message{Kind: kind, Body: body(n)})
		expectWaits(t, s, 0)
		return
	}
	expectMessages(t, got)
	expectFault(t, s, 1, 2, byte((19+n)>>8), byte(19+n))
}

func TestSeveralInOnePiece(t *testing.T) {
	list := some()
	b := joined(t, list)
	s, got := fed(b)
	expectMessages(t, got, list...)
	expectWaits(t, s, 0)

	s, got = fed(append(b, keepalive()[:18]...))
	expectMessages(t, got, list...)
	expectWaits(t, s, 18)
	expectMessages(t, s.Feed([]byte{4, 255, 255}), api.Message{Kind: api.Keepalive})
	expectWaits(t, s, 2)
}

func TestWaitsGrowsAndFalls(t *testing.T) {
	b := put(t, api.Updates, body(300))
	s := New()
	for i := range b {
		expectWaits(t, s, i)
		expectMessages(t, s.Feed(nil))
		expectWaits(t, s, i)
		got := s.Feed(b[i : i+1])
		if i < len(b)-1 {
			expectMessages(t, got)
		} else {
			expectMessages(t, got, api.Message{Kind: api.Updates, Body: body(300)})
		}
	}
	expectWaits(t, s, 0)
}

func TestWhatIsBehindAFaultIsDropped(t *testing.T) {
	one := api.Message{Kind: api.Updates, Body: body(5)}
	ahead := put(t, one.Kind, one.Body)
	bad := header(20, 4)
	behind := append(keepalive(), 1, 2, 3)
	whole := bytes.Join([][]byte{ahead, ahead, bad, behind}, nil)
	for cut := range len(whole) + 1 {
		s := New()
		got := append(s.Feed(whole[:cut]), s.Feed(whole[cut:])...)
		expectMessages(t, got, one, one)
		expectFault(t, s, 1, 2, 0, 20)
	}
}

func TestAStreamWithAFaultTakesNothing(t *testing.T) {
	s, _ := fed(header(19, 9))
	other := header(18, 4)
	for _, b := range [][]byte{keepalive(), other, nil, {}, {255}, make([]byte, 5000), keepalive()} {
		expectMessages(t, s.Feed(b))
		expectFault(t, s, 1, 3, 9)
	}
}

func TestTheFaultStays(t *testing.T) {
	s, _ := fed(header(19, 9))
	f, _ := s.Fault()
	spare := f.Data[:cap(f.Data)]
	for i := range spare {
		spare[i] = 77
	}
	expectFault(t, s, 1, 3, 9)

	s, _ = fed(header(18, 4))
	f, _ = s.Fault()
	f.Data[0], f.Data[1] = 1, 1
	expectFault(t, s, 1, 2, 0, 18)
}

func TestFeedKeepsNothingOfItsArgument(t *testing.T) {
	b := put(t, api.Updates, body(30))
	piece := append([]byte{}, b[:40]...)
	room := append([]byte{}, piece...)
	s := New()
	s.Feed(room[:25])
	if !bytes.Equal(room, piece) {
		t.Errorf("the argument is now % x", room)
	}
	clear(room)
	expectMessages(t, s.Feed(b[25:]), api.Message{Kind: api.Updates, Body: body(30)})

	given := append([]byte{}, b...)
	_, got := fed(given)
	clear(given)
	expectMessages(t, got, api.Message{Kind: api.Updates, Body: body(30)})

	// The data of a fault too.
	given = header(18, 4)
	s, _ = fed(given)
	clear(given)
	expectFault(t, s, 1, 2, 0, 18)
}

func TestAnswersShareNothing(t *testing.T) {
	list := some()
	s, got := fed(append(joined(t, list), put(t, api.Updates, body(9))[:23]...))
	for i := range got {
		spare := got[i].Body[:cap(got[i].Body)]
		for j := range spare {
			spare[j] = byte(100 + i)
		}
	}
	for i, m := range got {
		want := bytes.Repeat([]byte{byte(100 + i)}, len(list[i].Body))
		if !bytes.Equal(m.Body, want) {
			t.Errorf("the body %d is now % x", i, m.Body)
		}
	}
	room := got[:cap(got)]
	clear(room)
	expectMessages(t, s.Feed(body(9)[4:]), api.Message{Kind: api.Updates, Body: body(9)})
}

func TestStreamsAreApart(t *testing.T) {
	one, other := New(), New()
	b := put(t, api.Updates, body(8))
	one.Feed(b[:20])
	other.Feed(header(19, 9))
	expectWaits(t, one, 20)
	expectFault(t, other, 1, 3, 9)
	expectMessages(t, one.Feed(b[20:]), api.Message{Kind: api.Updates, Body: body(8)})
}

// P3.3

func TestNilStream(t *testing.T) {
	var s *Stream
	for _, b := range [][]byte{nil, {}, keepalive(), header(18, 4), make([]byte, 5000)} {
		expectMessages(t, s.Feed(b))
		expectWaits(t, s, 0)
	}
}

// P3.4

func TestPiecesOfEveryLength(t *testing.T) {
	list := some()
	b := joined(t, list)
	for size := 1; size <= len(b); size++ {
		var got []api.Message
		s := New()
		for at := 0; at < len(b); at += size {
			got = append(got, s.Feed(b[at:min(at+size, len(b))])...)
		}
		if !sameMessages(got, list) || s.Waits() != 0 {
			t.Errorf("in pieces of %d: %v, %d wait", size, got, s.Waits())
		}
	}
}

func TestCutAtEveryPlace(t *testing.T) {
	list := some()
	b := joined(t, list)
	for cut := range len(b) + 1 {
		s, got := fed(b[:cut])
		told := 0
		for _, m := range got {
			told += 19 + len(m.Body)
		}
		if !sameMessages(got, list[:len(got)]) || told+s.Waits() != cut {
			t.Errorf("cut at %d: %d messages of %d bytes, %d wait", cut, len(got), told, s.Waits())
		}
		if len(got) < len(list) && told+19+len(list[len(got)].Body) <= cut {
			t.Errorf("cut at %d: a whole message isn't told", cut)
		}
		got = append(got, s.Feed(b[cut:])...)
		expectMessages(t, got, list...)
		expectWaits(t, s, 0)
	}
}

func TestLongestMessagesInPieces(t *testing.T) {
	list := []api.Message{
		{Kind: api.Open, Body: body(4077)},
		{Kind: api.Updates, Body: body(4077)},
		{Kind: api.Keepalive},
		{Kind: api.Notification, Body: bytes.Repeat([]byte{255}, 4077)},
		{Kind: api.Updates, Body: body(4076)},
	}
	b := joined(t, list)
	for _, size := range []int{1, 2, 18, 19, 20, 1000, 4095, 4096, 4097, 8192, len(b)} {
		var got []api.Message
		s := New()
		for at := 0; at < len(b); at += size {
			got = append(got, s.Feed(b[at:min(at+size, len(b))])...)
		}
		if !sameMessages(got, list) {
			t.Errorf("in pieces of %d: %d messages", size, len(got))
		}
		expectWaits(t, s, 0)
	}
}

func TestEverySizeIsToldAsItWas(t *testing.T) {
	for _, r := range bounds {
		s := New()
		for n := r.least; n <= r.most; n++ {
			m := api.Message{Kind: r.kind, Body: body(n)}
			b := put(t, m.Kind, m.Body)
			cut := (n * 5) % len(b)
			got := append(s.Feed(b[:cut]), s.Feed(b[cut:])...)
			if !sameMessages(got, []api.Message{m}) {
				t.Fatalf("a message of the kind %d with %d bytes: %v", r.kind, n, got)
			}
		}
		expectWaits(t, s, 0)
	}
}

// The chapter's examples.
func TestChapterExamples(t *testing.T) {
	b, e := Put(api.Message{Kind: api.Keepalive})
	if e != api.OK || !bytes.Equal(b, append(bytes.Repeat([]byte{255}, 16), 0, 19, 4)) {
		t.Errorf("% x, %d", b, e)
	}
	s, got := fed(b[:10])
	expectMessages(t, got)
	expectWaits(t, s, 10)
	expectMessages(t, s.Feed(b[10:]), api.Message{Kind: api.Keepalive})
	expectWaits(t, s, 0)

	s, got = fed(append(bytes.Repeat([]byte{255}, 16), 0, 18, 4))
	expectMessages(t, got)
	expectFault(t, s, 1, 2, 0, 18)

	if b, e := Put(api.Message{Kind: api.Keepalive, Body: []byte{1}}); e != api.ErrFull || len(b) != 0 {
		t.Errorf("% x, %d", b, e)
	}
}

// P1: with whatever bit turned, every call ends, and how the bytes were cut is not to be seen.
func TestSpoiltBytes(t *testing.T) {
	b := joined(t, some())
	for i := range 8 * len(b) {
		spoilt := append([]byte{}, b...)
		spoilt[i/8] ^= 1 << (i % 8)
		s, want := fed(spoilt)
		f, is := s.Fault()

		pieces := New()
		var got []api.Message
		for at := range spoilt {
			got = append(got, pieces.Feed(spoilt[at:at+1])...)
		}
		expectMessages(t, got, want...)
		if is {
			expectFault(t, pieces, f.Code, f.Sub, f.Data...)
		} else {
			expectWaits(t, pieces, s.Waits())
		}
	}
}
