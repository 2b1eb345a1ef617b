package attr

import (
	"bytes"
	"math"
	"math/rand"
	"testing"

	"weft/api"
)

// oddNumbers are flags and kinds at and around the bounds of a byte, and far beyond.
var oddNumbers = []int{math.MinInt, math.MinInt32, -257, -256, -255, -192, -128, -64, -1, 256, 257, 256 + 14, 256 + 64, 511, 512, 65536, 1 << 32, 1<<32 + 1, math.MaxInt - 1, math.MaxInt}

func filled(n int) []byte {
	b := make([]byte, n)
	for i := range b {
		b[i] = byte(i*7 + i>>8)
	}
	return b
}

func sameRaw(a, b api.Raw) bool {
	return a.Flags == b.Flags && a.Kind == b.Kind && bytes.Equal(a.Value, b.Value)
}

func sameRaws(a, b []api.Raw) bool {
	if len(a) != len(b) {
		return false
	}
	for i := range a {
		if !sameRaw(a[i], b[i]) {
			return false
		}
	}
	return true
}

func expectRaws(t *testing.T, got []api.Raw, e api.Errno, want ...api.Raw) {
	t.Helper()
	if e != api.OK || !sameRaws(got, want) {
		t.Errorf("got %v, error %d; want %v", got, e, want)
	}
}

func expectBytes(t *testing.T, got []byte, e api.Errno, want ...byte) {
	t.Helper()
	if e != api.OK || !bytes.Equal(got, want) {
		t.Errorf("got % x, error %d; want % x", got, e, want)
	}
}

// P5.1: Split

func TestSplitOneByOne(t *testing.T) {
	rows := []struct {
		b    []byte
		want []api.Raw
	}{
		{nil, nil},
		{[]byte{}, nil},
		{[]byte{64, 1, 0}, []api.Raw{{Flags: 64, Kind: 1}}},
		{[]byte{0, 0, 0}, []api.Raw{{}}},
		{[]byte{0, 0, 0, 0, 0, 0}, []api.Raw{{}, {}}},
		{[]byte{64, 1, 1, 0}, []api.Raw{{Flags: 64, Kind: 1, Value: []byte{0}}}},
		{[]byte{255, 255, 0, 1, 9}, []api.Raw{{Flags: 255, Kind: 255, Value: []byte{9}}}},
		{[]byte{16, 7, 0, 0}, []api.Raw{{Flags: 16, Kind: 7}}},
		{[]byte{80, 2, 0, 2, 5, 6}, []api.Raw{{Flags: 80, Kind: 2, Value: []byte{5, 6}}}},
		{[]byte{239, 2, 2, 5, 6}, []api.Raw{{Flags: 239, Kind: 2, Value: []byte{5, 6}}}},
		{[]byte{64, 1, 1, 2, 144, 14, 0, 1, 8, 192, 99, 0}, []api.Raw{
			{Flags: 64, Kind: 1, Value: []byte{2}}, {Flags: 144, Kind: 14, Value: []byte{8}}, {Flags: 192, Kind: 99},
		}},
	}
	for _, r := range rows {
		got, e := Split(r.b)
		expectRaws(t, got, e, r.want...)
	}
}

func TestSplitEveryFlagsAndKind(t *testing.T) {
	for flags := range 256 {
		for kind := range 256 {
			b := []byte{byte(flags), byte(kind), 1, 7}
			if flags&16 != 0 {
				b = []byte{byte(flags), byte(kind), 0, 1, 7}
			}
			got, e := Split(b)
			expectRaws(t, got, e, api.Raw{Flags: flags, Kind: kind, Value: []byte{7}})
		}
	}
}

func TestSplitLongValues(t *testing.T) {
	for _, n := range []int{0, 1, 254, 255, 256, 257, 4077, 65534, 65535} {
		v := filled(n)
		b := append([]byte{16, 9, byte(n >> 8), byte(n)}, v...)
		got, e := Split(b)
		expectRaws(t, got, e, api.Raw{Flags: 16, Kind: 9, Value: v})
		if n <= 255 {
			got, e = Split(append([]byte{239, 9, byte(n)}, v...))
			expectRaws(t, got, e, api.Raw{Flags: 239, Kind: 9, Value: v})
		}
	}
}

func TestSplitBeyondItsBytes(t *testing.T) {
	one := []byte{64, 1, 1, 0}
	tails := [][]byte{
		{64}, {64, 1}, {80}, {80, 1}, {80, 1, 0}, {16, 0, 255},
		{64, 1, 1}, {64, 1, 2, 0}, {64, 1, 255}, {80, 1, 0, 1}, {80, 1, 1, 0},
		{80, 1, 255, 255}, {80, 1, 0, 2, 0}, {0}, {255},
		append([]byte{64, 1, 255}, filled(254)...),
		append([]byte{80, 1, 1, 0}, filled(255)...),
		append([]byte{80, 1, 255, 255}, filled(65534)...),
	}
	for _, tail := range tails {
		for _, ahead := range [][]byte{nil, one, append(bytes.Clone(one), one...)} {
			got, e := Split(append(bytes.Clone(ahead), tail...))
			if e != api.ErrShort || len(got) != 0 {
				t.Errorf("Split(% x, % x) = %v, %d", ahead, tail[:min(len(tail), 8)], got, e)
			}
		}
	}
}

// Just the cuts between attributes leave attributes.
func TestSplitAtEveryCut(t *testing.T) {
	all := []byte{64, 1, 1, 0, 80, 2, 0, 6, 2, 1, 0, 0, 0, 9, 192, 99, 0, 144, 14, 0, 0, 128, 4, 4, 0, 0, 0, 1}
	ends := map[int]int{0: 0, 4: 1, 14: 2, 17: 3, 21: 4, 28: 5}
	for n := range len(all) + 1 {
		got, e := Split(all[:n])
		count, is := ends[n]
		if is && (e != api.OK || len(got) != count) || !is && (e != api.ErrShort || len(got) != 0) {
			t.Errorf("first %d bytes: %v, %d", n, got, e)
		}
	}
}

// P5.1: Join

func TestJoinOneBehindTheOther(t *testing.T) {
	got, e := Join(nil)
	expectBytes(t, got, e)
	got, e = Join([]api.Raw{})
	expectBytes(t, got, e)
	got, e = Join([]api.Raw{{}})
	expectBytes(t, got, e, 0, 0, 0)
	got, e = Join([]api.Raw{{Flags: 255, Kind: 255, Value: []byte{}}})
	expectBytes(t, got, e, 255, 255, 0, 0)
	got, e = Join([]api.Raw{{Flags: 64, Kind: 1, Value: []byte{2}}, {Flags: 144, Kind: 14, Value: []byte{8, 9}}, {Flags: 192, Kind: 99}})
	expectBytes(t, got, e, 64, 1, 1, 2, 144, 14, 0, 2, 8, 9, 192, 99, 0)
}

func TestJoinLengths(t *testing.T) {
	for _, n := range []int{0, 1, 255, 256, 257, 65535, 65536, 65537, 1 << 17} {
		v := filled(n)
		for _, flags := range []int{0, 64, 239, 16, 80, 255} {
			got, e := Join([]api.Raw{{Flags: flags, Kind: 9, Value: v}})
			most := 255
			head := []byte{byte(flags), 9, byte(n)}
			if flags&16 != 0 {
				most = 65535
				head = []byte{byte(flags), 9, byte(n >> 8), byte(n)}
			}
			if n > most {
				if e != api.ErrFull || len(got) != 0 {
					t.Errorf("%d bytes, flags %d: %d bytes, error %d", n, flags, len(got), e)
				}
				continue
			}
			expectBytes(t, got, e, append(head, v...)...)
		}
	}
}

func TestJoinFlagsAndKindsThatAreNoBytes(t *testing.T) {
	right := api.Raw{Flags: 64, Kind: 1, Value: []byte{0}}
	for _, n := range oddNumbers {
		for _, wrong := range []api.Raw{{Flags: n, Kind: 1}, {Flags: 64, Kind: n}, {Flags: n, Kind: n, Value: []byte{1}}} {
			for _, l := range [][]api.Raw{{wrong}, {wrong, right}, {right, wrong}, {right, wrong, right}} {
				if got, e := Join(l); e != api.ErrArg || len(got) != 0 {
					t.Errorf("Join(%v) = % x, %d", l, got, e)
				}
			}
		}
	}
}

func TestJoinTellsTheFirstError(t *testing.T) {
	arg := api.Raw{Flags: 256, Kind: 1}
	full := api.Raw{Flags: 64, Kind: 1, Value: filled(256)}
	both := api.Raw{Flags: 64, Kind: 256, Value: filled(256)}
	right := api.Raw{Flags: 64, Kind: 1, Value: []byte{0}}
	rows := []struct {
		l    []api.Raw
		want api.Errno
	}{
		{[]api.Raw{right, arg, full}, api.ErrArg},
		{[]api.Raw{right, full, arg}, api.ErrFull},
		{[]api.Raw{both}, api.ErrArg},
		{[]api.Raw{full, both}, api.ErrFull},
		{[]api.Raw{right, full, right}, api.ErrFull},
	}
	for i, r := range rows {
		if got, e := Join(r.l); e != r.want || len(got) != 0 {
			t.Errorf("row %d: % x, %d", i, got, e)
		}
	}
}

// P5.6

func TestJoinOfWhatSplitTells(t *testing.T) {
	rnd := rand.New(rand.NewSource(5))
	split := 0
	for range 20000 {
		b := make([]byte, rnd.Intn(24))
		for i := range b {
			b[i] = byte(rnd.Intn(256))
			if rnd.Intn(2) == 0 {
				b[i] = byte(rnd.Intn(4))
			}
		}
		l, e := Split(b)
		if e != api.OK {
			continue
		}
		split++
		got, e := Join(l)
		expectBytes(t, got, e, b...)
	}
	if split < 1000 {
		t.Errorf("only %d of them could be split", split)
	}
}

func TestSplitOfWhatJoinTells(t *testing.T) {
	rnd := rand.New(rand.NewSource(6))
	for range 2000 {
		l := make([]api.Raw, rnd.Intn(6))
		for i := range l {
			l[i] = api.Raw{Flags: rnd.Intn(256), Kind: rnd.Intn(256), Value: filled(rnd.Intn(256))}
			if l[i].Flags&16 != 0 {
				l[i].Value = filled(rnd.Intn(1000))
			}
		}
		b, e := Join(l)
		if e != api.OK {
			t.Fatal(e)
		}
		got, e := Split(b)
		expectRaws(t, got, e, l...)
	}
}

// Rule 4

func TestSplitKeepsApart(t *testing.T) {
	room := []byte{64, 1, 1, 2, 64, 2, 1, 3, 77, 78}
	before := bytes.Clone(room)
	got, _ := Split(room[:8])
	got[0].Value = append(got[0].Value, 91)
	got[0].Value[0] = 90
	spare := got[1].Value[:cap(got[1].Value)]
	for i := range spare {
		spare[i] = 92
	}
	if !bytes.Equal(room, before) {
		t.Errorf("argument became % x", room)
	}
	if got[0].Value[0] != 90 || got[0].Value[1] != 91 {
		t.Errorf("the second value's room reaches the first one: %v", got)
	}
	again, e := Split(room[:8])
	expectRaws(t, again, e, api.Raw{Flags: 64, Kind: 1, Value: []byte{2}}, api.Raw{Flags: 64, Kind: 2, Value: []byte{3}})
}

func TestJoinKeepsApart(t *testing.T) {
	room := []byte{1, 2, 3, 4}
	l := []api.Raw{{Flags: 64, Kind: 1, Value: room[:2]}, {Flags: 64, Kind: 9}}
	got, e := Join(l[:1])
	expectBytes(t, got, e, 64, 1, 2, 1, 2)
	got[3] = 50
	spare := got[:cap(got)]
	for i := range spare {
		spare[i] = 51
	}
	if !bytes.Equal(room, []byte{1, 2, 3, 4}) || !sameRaw(l[1], api.Raw{Flags: 64, Kind: 9}) {
		t.Errorf("arguments became %v, %v", room, l)
	}
}

func TestChapterExampleSplit(t *testing.T) {
	got, e := Split([]byte{64, 1, 1, 0})
	expectRaws(t, got, e, api.Raw{Flags: 64, Kind: api.AOrigin, Value: []byte{0}})
	if got, e := Split([]byte{64, 1, 2, 0}); e != api.ErrShort || len(got) != 0 {
		t.Error(got, e)
	}
}
