package octet

import (
	"bytes"
	"math"
	"testing"

	"weft/api"
)

// oddCounts are sizes and counts at and around every bound, and far beyond.
var oddCounts = []int{math.MinInt, math.MinInt32, -9, -8, -1, 0, 1, 2, 3, 4, 5, 6, 7, 8, 9, 16, 64, 256, math.MaxInt32, math.MaxInt - 1, math.MaxInt}

// greatest is the greatest number of a size.
func greatest(size int) uint64 {
	return math.MaxUint64 >> (64 - 8*size)
}

func expect(t *testing.T, c *Cursor, at, left int, e api.Errno) {
	t.Helper()
	if c.At() != at || c.Left() != left || c.Err() != e {
		t.Errorf("At %d, Left %d, Err %d; want %d, %d, %d", c.At(), c.Left(), c.Err(), at, left, e)
	}
}

func expectBytes(t *testing.T, got []byte, want ...byte) {
	t.Helper()
	if !bytes.Equal(got, want) {
		t.Errorf("got % x, want % x", got, want)
	}
}

func expectNum(t *testing.T, got, want uint64) {
	t.Helper()
	if got != want {
		t.Errorf("got %d, want %d", got, want)
	}
}

// P1.1

func TestPutWritesHighestFirst(t *testing.T) {
	rows := []struct {
		ahead []byte
		n     uint64
		size  int
		want  []byte
	}{
		{nil, 258, 2, []byte{1, 2}},
		{[]byte{}, 0, 1, []byte{0}},
		{nil, 255, 1, []byte{255}},
		{nil, 1, 8, []byte{0, 0, 0, 0, 0, 0, 0, 1}},
		{nil, 0, 8, []byte{0, 0, 0, 0, 0, 0, 0, 0}},
		{nil, 0x0102030405060708, 8, []byte{1, 2, 3, 4, 5, 6, 7, 8}},
		{[]byte{9, 8}, 0x010203, 3, []byte{9, 8, 1, 2, 3}},
		{[]byte{7}, 5, 4, []byte{7, 0, 0, 0, 5}},
	}
	for _, r := range rows {
		got, e := Put(r.ahead, r.n, r.size)
		if e != api.OK {
			t.Errorf("Put(% x, %d, %d): error %d", r.ahead, r.n, r.size, e)
		}
		expectBytes(t, got, r.want...)
	}
}

func TestPutNumbersThatJustFit(t *testing.T) {
	for size := 1; size <= 8; size++ {
		got, e := Put([]byte{5}, greatest(size), size)
		if e != api.OK {
			t.Errorf("size %d: error %d", size, e)
		}
		expectBytes(t, got, append([]byte{5}, bytes.Repeat([]byte{255}, size)...)...)
	}
}

func TestPutNumbersThatDoNotFit(t *testing.T) {
	for size := 1; size <= 7; size++ {
		for _, n := range []uint64{greatest(size) + 1, 1 << 63, math.MaxUint64} {
			if got, e := Put([]byte{5}, n, size); e != api.ErrArg || len(got) != 0 {
				t.Errorf("Put(05, %d, %d) = % x, %d", n, size, got, e)
			}
		}
	}
}

func TestPutWrongSizes(t *testing.T) {
	for _, size := range oddCounts {
		if size >= 1 && size <= 8 {
			continue
		}
		for _, n := range []uint64{0, 1, math.MaxUint64} {
			if got, e := Put([]byte{5}, n, size); e != api.ErrArg || len(got) != 0 {
				t.Errorf("Put(05, %d, %d) = % x, %d", n, size, got, e)
			}
		}
	}
}

func TestPutLeavesItsArgumentAlone(t *testing.T) {
	room := []byte{1, 2, 3, 4, 5, 6}
	first, _ := Put(room[:2], 0xaabb, 2)
	second, _ := Put(room[:2], 0xccdd, 2)
	expectBytes(t, room, 1, 2, 3, 4, 5, 6)
	expectBytes(t, first, 1, 2, 0xaa, 0xbb)
	expectBytes(t, second, 1, 2, 0xcc, 0xdd)

	room[0] = 9
	expectBytes(t, first, 1, 2, 0xaa, 0xbb)

	spare := first[:cap(first)]
	for i := range spare {
		spare[i] = 7
	}
	expectBytes(t, room, 9, 2, 3, 4, 5, 6)
	expectBytes(t, second, 1, 2, 0xcc, 0xdd)
}

// P1.2

func TestNewStandsAtPlaceZero(t *testing.T) {
	expect(t, New([]byte{1, 2, 3}), 0, 3, api.OK)
	for _, none := range [][]byte{nil, {}} {
		c := New(none)
		if c == nil {
			t.Fatal("no cursor over no bytes")
		}
		expect(t, c, 0, 0, api.OK)
	}
}

func TestNewKeepsNothingOfItsArgument(t *testing.T) {
	given := []byte{1, 2, 3}
	c := New(given[:2])
	given[0], given[1] = 8, 9
	expectNum(t, c.Num(2), 258)
	c.Num(1)
	expect(t, c, 2, 0, api.ErrShort)
	expectBytes(t, given, 8, 9, 3)
}

func TestNumOfEachSize(t *testing.T) {
	over := []byte{0x81, 2, 3, 4, 5, 6, 7, 8, 9}
	want := uint64(0)
	for size := 1; size <= 8; size++ {
		want = want<<8 | uint64(over[size-1])
		c := New(over)
		expectNum(t, c.Num(size), want)
		expect(t, c, size, 9-size, api.OK)
	}
}

func TestNumInARow(t *testing.T) {
	c := New([]byte{1, 0, 2, 0, 0, 3})
	expectNum(t, c.Num(1), 1)
	expectNum(t, c.Num(2), 2)
	expectNum(t, c.Num(3), 3)
	expect(t, c, 6, 0, api.OK)
}

func TestNumOfAllThatIsLeftAndOfMore(t *testing.T) {
	for size := 1; size <= 8; size++ {
		over := bytes.Repeat([]byte{255}, size)
		c := New(over)
		expectNum(t, c.Num(size), greatest(size))
		expect(t, c, size, 0, api.OK)

		c = New(over[1:])
		expectNum(t, c.Num(size), 0)
		expect(t, c, 0, size-1, api.ErrShort)
	}
}

func TestNumWrongSizes(t *testing.T) {
	for _, size := range oddCounts {
		if size >= 1 && size <= 8 {
			continue
		}
		c := New(make([]byte, 300))
		c.Skip(1)
		expectNum(t, c.Num(size), 0)
		expect(t, c, 1, 299, api.ErrArg)

		// Both errors apply: the size is named first.
		c = New(nil)
		expectNum(t, c.Num(size), 0)
		expect(t, c, 0, 0, api.ErrArg)
	}
}

func TestTake(t *testing.T) {
	c := New([]byte{1, 2, 3, 4})
	expectBytes(t, c.Take(0))
	expect(t, c, 0, 4, api.OK)
	expectBytes(t, c.Take(3), 1, 2, 3)
	expect(t, c, 3, 1, api.OK)
	expectBytes(t, c.Take(1), 4)
	expect(t, c, 4, 0, api.OK)
	expectBytes(t, c.Take(0))
	expect(t, c, 4, 0, api.OK)
	expectBytes(t, c.Take(1))
	expect(t, c, 4, 0, api.ErrShort)
}

func TestTakeAndSkipOfAnyCount(t *testing.T) {
	over := []byte{1, 2, 3, 4, 5, 6, 7, 8, 9}
	for _, n := range oddCounts {
		at, e := 1, api.OK
		var want []byte
		switch {
		case n < 0:
			e = api.ErrArg
		case n > 8:
			e = api.ErrShort
		default:
			at, want = 1+n, over[1:1+n]
		}
		c := New(over)
		c.Skip(1)
		expectBytes(t, c.Take(n), want...)
		expect(t, c, at, 9-at, e)

		c = New(over)
		c.Skip(1)
		c.Skip(n)
		expect(t, c, at, 9-at, e)
	}
}

func TestSkipIsTakeWithoutItsAnswer(t *testing.T) {
	c := New([]byte{1, 2, 3})
	c.Skip(2)
	expect(t, c, 2, 1, api.OK)
	expectNum(t, c.Num(1), 3)
	c.Skip(0)
	expect(t, c, 3, 0, api.OK)
	c.Skip(-1)
	expect(t, c, 3, 0, api.ErrArg)
}

func TestTakeAnswersNewMemory(t *testing.T) {
	given := []byte{1, 2, 3, 4}
	c := New(given)
	first := c.Take(2)
	spare := first[:cap(first)]
	for i := range spare {
		spare[i] = 9
	}
	expectBytes(t, given, 1, 2, 3, 4)
	second := c.Take(2)
	expectBytes(t, second, 3, 4)
	second[0] = 8
	expectBytes(t, given, 1, 2, 3, 4)
}

// P1.3

func TestFirstErrorStays(t *testing.T) {
	breaks := []struct {
		do func(*Cursor)
		e  api.Errno
	}{
		{func(c *Cursor) { c.Num(0) }, api.ErrArg},
		{func(c *Cursor) { c.Num(9) }, api.ErrArg},
		{func(c *Cursor) { c.Take(-1) }, api.ErrArg},
		{func(c *Cursor) { c.Skip(-1) }, api.ErrArg},
		{func(c *Cursor) { c.Num(4) }, api.ErrShort},
		{func(c *Cursor) { c.Take(4) }, api.ErrShort},
		{func(c *Cursor) { c.Skip(4) }, api.ErrShort},
	}
	for i, first := range breaks {
		c := New([]byte{1, 2, 3, 4})
		c.Skip(1)
		first.do(c)
		expect(t, c, 1, 3, first.e)
		for _, later := range breaks {
			later.do(c)
			expect(t, c, 1, 3, first.e)
		}
		expectNum(t, c.Num(1), 0)
		expectBytes(t, c.Take(1))
		expectBytes(t, c.Take(0))
		c.Skip(1)
		expect(t, c, 1, 3, first.e)
		if t.Failed() {
			t.Fatalf("behind the break %d", i)
		}
	}
}

func TestAtAndLeftAddUp(t *testing.T) {
	c := New(make([]byte, 20))
	for at, n := range []int{0, 1, 2, 3, 4, 5} {
		c.Skip(n)
		passed := at * (at + 1) / 2
		expect(t, c, passed, 20-passed, api.OK)
	}
	c.Num(5)
	expect(t, c, 20, 0, api.OK)
}

// P1.4

func TestNilCursor(t *testing.T) {
	var c *Cursor
	for _, n := range oddCounts {
		expectNum(t, c.Num(n), 0)
		expectBytes(t, c.Take(n))
		c.Skip(n)
		expect(t, c, 0, 0, api.ErrNil)
	}
}

// P1.5

func TestWhatWasPutIsRead(t *testing.T) {
	aheads := [][]byte{nil, {0}, {255, 254, 253}, bytes.Repeat([]byte{0xa5}, 4096)}
	for size := 1; size <= 8; size++ {
		for _, n := range []uint64{0, 1, 127, 128, 0x0102030405060708 >> (64 - 8*size), greatest(size) / 2, greatest(size) - 1, greatest(size)} {
			for _, ahead := range aheads {
				b, e := Put(ahead, n, size)
				if e != api.OK {
					t.Fatalf("Put(.., %d, %d): error %d", n, size, e)
				}
				c := New(b)
				expectBytes(t, c.Take(len(ahead)), ahead...)
				expectNum(t, c.Num(size), n)
				expect(t, c, len(b), 0, api.OK)
			}
		}
	}
}

func TestManyNumbersPutAreRead(t *testing.T) {
	var b []byte
	for size := 1; size <= 8; size++ {
		b, _ = Put(b, greatest(size)-uint64(size), size)
	}
	c := New(b)
	for size := 1; size <= 8; size++ {
		expectNum(t, c.Num(size), greatest(size)-uint64(size))
	}
	expect(t, c, 36, 0, api.OK)
}

// The chapter's example.
func TestChapterExample(t *testing.T) {
	b, e := Put(nil, 258, 2)
	if e != api.OK {
		t.Error(e)
	}
	expectBytes(t, b, 1, 2)
	if b, e := Put(nil, 256, 1); e != api.ErrArg || len(b) != 0 {
		t.Error(b, e)
	}
	c := New([]byte{1, 2, 3})
	expectNum(t, c.Num(2), 258)
	expect(t, c, 2, 1, api.OK)
	expectNum(t, c.Num(2), 0)
	expect(t, c, 2, 1, api.ErrShort)
	expectBytes(t, c.Take(1))
}
