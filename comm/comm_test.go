package comm

import (
	"testing"

	"weft/api"
)

// layouts are the chapter's table: which byte behind the head is which field's (A: As, N: N, F: Flag, M: Mac, -: none).
var layouts = []struct {
	first, second byte
	kind, form    int
	bytes         string
}{
	{0, 2, 1, 0, "AANNNN"},
	{1, 2, 1, 1, "AAAANN"},
	{2, 2, 1, 2, "AAAANN"},
	{6, 0, 2, 0, "F-NNNN"},
	{6, 1, 3, 0, "F--NNN"},
	{6, 2, 4, 0, "MMMMMM"},
	{6, 3, 5, 0, "MMMMMM"},
	{3, 12, 6, 0, "----NN"},
}

// fieldsOf reads a community by the table.
func fieldsOf(c api.Comm) Fields {
	for _, l := range layouts {
		if c[0] != l.first || c[1] != l.second {
			continue
		}
		f := Fields{Kind: l.kind, Form: l.form}
		for i, x := range c[2:] {
			switch l.bytes[i] {
			case 'A':
				f.As = f.As*256 + uint32(x)
			case 'N':
				f.N = f.N*256 + uint32(x)
			case 'F':
				f.Flag = x%2 == 1
			case 'M':
				f.Mac[i] = x
			}
		}
		return f
	}
	return Fields{}
}

// tails are bytes behind a head: each byte with each value among others that are 0, 255, or unlike one another.
func tails() [][6]byte {
	var out [][6]byte
	for _, rest := range [][6]byte{{}, {255, 255, 255, 255, 255, 255}, {1, 2, 3, 4, 5, 6}, {0xfe, 0xdc, 0xba, 0x98, 0x76, 0x54}} {
		for at := range rest {
			for x := range 256 {
				tail := rest
				tail[at] = byte(x)
				out = append(out, tail)
			}
		}
	}
	return out
}

func withTail(first, second byte, tail [6]byte) api.Comm {
	return api.Comm{first, second, tail[0], tail[1], tail[2], tail[3], tail[4], tail[5]}
}

// everyKind answers one community of each row of the table, and others.
func everyKind() []api.Comm {
	out := []api.Comm{{7, 7, 1, 2, 3, 4, 5, 6}, {}}
	for _, l := range layouts {
		out = append(out, withTail(l.first, l.second, [6]byte{1, 2, 3, 4, 5, 6}))
	}
	return out
}

// P4.2

func TestConstants(t *testing.T) {
	if got, want := [7]int{Other, Target, Mobility, Label, Import, Router, Encap}, [7]int{0, 1, 2, 3, 4, 5, 6}; got != want {
		t.Errorf("the kinds are %v", got)
	}
}

func TestReadEachField(t *testing.T) {
	rows := []struct {
		c    api.Comm
		want Fields
	}{
		{api.Comm{0, 2, 0xfd, 0xe8, 0, 0, 0, 100}, Fields{Kind: Target, As: 65000, N: 100}},
		{api.Comm{0, 2, 1, 2, 3, 4, 5, 6}, Fields{Kind: Target, As: 0x0102, N: 0x03040506}},
		{api.Comm{1, 2, 1, 2, 3, 4, 5, 6}, Fields{Kind: Target, Form: 1, As: 0x01020304, N: 0x0506}},
		{api.Comm{2, 2, 1, 2, 3, 4, 5, 6}, Fields{Kind: Target, Form: 2, As: 0x01020304, N: 0x0506}},
		{api.Comm{2, 2, 255, 255, 255, 255, 255, 255}, Fields{Kind: Target, Form: 2, As: 1<<32 - 1, N: 65535}},
		{api.Comm{6, 0, 1, 0, 0, 0, 0, 5}, Fields{Kind: Mobility, Flag: true, N: 5}},
		{api.Comm{6, 0, 0, 0, 255, 255, 255, 255}, Fields{Kind: Mobility, N: 1<<32 - 1}},
		{api.Comm{6, 1, 1, 0, 0, 1, 2, 3}, Fields{Kind: Label, Flag: true, N: 0x010203}},
		{api.Comm{6, 1, 0, 0, 0, 255, 255, 255}, Fields{Kind: Label, N: api.MaxLabel}},
		{api.Comm{6, 2, 1, 2, 3, 4, 5, 6}, Fields{Kind: Import, Mac: api.Mac{1, 2, 3, 4, 5, 6}}},
		{api.Comm{6, 3, 1, 2, 3, 4, 5, 6}, Fields{Kind: Router, Mac: api.Mac{1, 2, 3, 4, 5, 6}}},
		{api.Comm{3, 12, 0, 0, 0, 0, 0, 8}, Fields{Kind: Encap, N: 8}},
		{api.Comm{3, 12, 0, 0, 0, 0, 255, 255}, Fields{Kind: Encap, N: 65535}},
		{api.Comm{0, 3, 1, 2, 3, 4, 5, 6}, Fields{}},
		{api.Comm{}, Fields{}},
	}
	for _, r := range rows {
		if got := Read(r.c); got != r.want {
			t.Errorf("Read(% x) = %+v, want %+v", r.c, got, r.want)
		}
	}
}

func TestBytesWithoutAFieldPlayNoPart(t *testing.T) {
	rows := []struct {
		c    api.Comm
		want Fields
	}{
		{api.Comm{6, 0, 0xfe, 0xff, 0, 0, 0, 5}, Fields{Kind: Mobility, N: 5}},
		{api.Comm{6, 0, 0xff, 0xff, 0, 0, 0, 5}, Fields{Kind: Mobility, Flag: true, N: 5}},
		{api.Comm{6, 0, 0x80, 1, 0, 0, 0, 5}, Fields{Kind: Mobility, N: 5}},
		{api.Comm{6, 1, 0xfe, 0xff, 0xff, 0, 0, 5}, Fields{Kind: Label, N: 5}},
		{api.Comm{6, 1, 0xff, 0xff, 0xff, 0, 0, 5}, Fields{Kind: Label, Flag: true, N: 5}},
		{api.Comm{6, 1, 2, 1, 1, 0, 0, 5}, Fields{Kind: Label, N: 5}},
		{api.Comm{3, 12, 0xff, 0xff, 0xff, 0xff, 0, 8}, Fields{Kind: Encap, N: 8}},
		{api.Comm{3, 12, 1, 2, 3, 4, 0, 8}, Fields{Kind: Encap, N: 8}},
	}
	for _, r := range rows {
		if got := Read(r.c); got != r.want {
			t.Errorf("Read(% x) = %+v, want %+v", r.c, got, r.want)
		}
	}
}

func TestReadByTheTable(t *testing.T) {
	for _, l := range layouts {
		for _, tail := range tails() {
			c := withTail(l.first, l.second, tail)
			if got, want := Read(c), fieldsOf(c); got != want {
				t.Fatalf("Read(% x) = %+v, want %+v", c, got, want)
			}
		}
	}
}

func TestReadEveryHead(t *testing.T) {
	others := 0
	for first := range 256 {
		for second := range 256 {
			c := withTail(byte(first), byte(second), [6]byte{0xff, 0xee, 0xdd, 0xcc, 0xbb, 0xaa})
			got := Read(c)
			if want := fieldsOf(c); got != want {
				t.Fatalf("Read(% x) = %+v, want %+v", c, got, want)
			}
			if got.Kind == Other {
				others++
			}
		}
	}
	if others != 65536-len(layouts) {
		t.Errorf("%d heads are of no kind", others)
	}
}

// P4.3

func TestCompareEachByte(t *testing.T) {
	for at := range 8 {
		for _, pair := range [][2]byte{{0, 1}, {1, 2}, {127, 128}, {0, 255}, {254, 255}} {
			// What stands behind the first byte that differs says the opposite, and plays no part.
			a, b := api.Comm{9, 9, 9, 9, 9, 9, 9, 9}, api.Comm{9, 9, 9, 9, 9, 9, 9, 9}
			for i := at + 1; i < 8; i++ {
				a[i], b[i] = 255, 0
			}
			a[at], b[at] = pair[0], pair[1]
			if Compare(a, b) != -1 || Compare(b, a) != 1 || Compare(a, a) != 0 || Compare(b, b) != 0 {
				t.Errorf("Compare(% x, % x) = %d, back %d", a, b, Compare(a, b), Compare(b, a))
			}
		}
	}
}

func TestCompareGoesByBytesNotByFields(t *testing.T) {
	// These two are read alike, and are not the same.
	a, b := api.Comm{6, 0, 0, 0, 0, 0, 0, 5}, api.Comm{6, 0, 0, 1, 0, 0, 0, 5}
	if Read(a) != Read(b) || Compare(a, b) != -1 || Compare(b, a) != 1 {
		t.Errorf("Compare = %d, back %d", Compare(a, b), Compare(b, a))
	}
}

func TestCompareIsAnOrder(t *testing.T) {
	l := append(everyKind(), api.Comm{255}, api.Comm{0, 0, 0, 0, 0, 0, 0, 1}, api.Comm{0, 2}, api.Comm{0, 2, 0, 0, 0, 0, 1})
	for _, a := range l {
		for _, b := range l {
			if Compare(a, b) != -Compare(b, a) || (Compare(a, b) == 0) != (a == b) {
				t.Errorf("Compare(% x, % x) = %d, back %d", a, b, Compare(a, b), Compare(b, a))
			}
			for _, c := range l {
				if Compare(a, b) < 0 && Compare(b, c) < 0 && Compare(a, c) != -1 {
					t.Errorf("% x, % x, % x are no order", a, b, c)
				}
			}
		}
	}
}
