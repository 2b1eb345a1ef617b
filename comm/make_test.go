package comm

import (
	"math"
	"testing"

	"weft/api"
)

// numbers are the edges of two, three and four bytes, and numbers whose bytes are unlike.
var numbers = []uint32{0, 1, 7, 100, 255, 256, 65000, 65534, 65535, 65536, 65537, 70000, 0x010203, api.MaxLabel - 1, api.MaxLabel, api.MaxLabel + 1, api.MaxLabel + 2, 0x01020304, 0x0a000001, 1<<31 - 1, 1 << 31, 0xfffeffff, 0xffff0000, math.MaxUint32 - 1, math.MaxUint32}

var macs = []api.Mac{{}, {1, 2, 3, 4, 5, 6}, {2, 0, 0, 0, 0, 9}, {0xfe, 0xdc, 0xba, 0x98, 0x76, 0x54}, {255, 255, 255, 255, 255, 255}}

// P4.1

func TestMakeTargetForms(t *testing.T) {
	rows := []struct {
		as, n uint32
		want  api.Comm
	}{
		{0, 0, api.Comm{0, 2}},
		{65000, 100, api.Comm{0, 2, 0xfd, 0xe8, 0, 0, 0, 0x64}},
		{65534, 65536, api.Comm{0, 2, 0xff, 0xfe, 0, 1, 0, 0}},
		{65535, 65535, api.Comm{0, 2, 0xff, 0xff, 0, 0, 0xff, 0xff}},
		{65535, math.MaxUint32, api.Comm{0, 2, 255, 255, 255, 255, 255, 255}},
		{0x0102, 0x03040506, api.Comm{0, 2, 1, 2, 3, 4, 5, 6}},
		{65536, 0, api.Comm{2, 2, 0, 1, 0, 0, 0, 0}},
		{65536, 65534, api.Comm{2, 2, 0, 1, 0, 0, 0xff, 0xfe}},
		{65536, 65535, api.Comm{2, 2, 0, 1, 0, 0, 0xff, 0xff}},
		{70000, 7, api.Comm{2, 2, 0, 1, 0x11, 0x70, 0, 7}},
		{0x01020304, 0x0506, api.Comm{2, 2, 1, 2, 3, 4, 5, 6}},
		{math.MaxUint32, 65535, api.Comm{2, 2, 255, 255, 255, 255, 255, 255}},
	}
	for _, r := range rows {
		if got, e := MakeTarget(r.as, r.n); got != r.want || e != api.OK {
			t.Errorf("MakeTarget(%d, %d) = % x, %d; want % x", r.as, r.n, got, e, r.want)
		}
	}
}

func TestMakeTargetThatFitsNoForm(t *testing.T) {
	for _, as := range numbers {
		for _, n := range numbers {
			c, e := MakeTarget(as, n)
			if as > 65535 && n > 65535 {
				if c != (api.Comm{}) || e != api.ErrArg {
					t.Errorf("MakeTarget(%d, %d) = % x, %d", as, n, c, e)
				}
			} else if c == (api.Comm{}) || e != api.OK {
				t.Errorf("MakeTarget(%d, %d) = % x, %d", as, n, c, e)
			}
		}
	}
}

func TestMakeMobility(t *testing.T) {
	for _, n := range numbers {
		want := api.Comm{6, 0, 0, 0, byte(n >> 24), byte(n >> 16), byte(n >> 8), byte(n)}
		if got := MakeMobility(false, n); got != want {
			t.Errorf("MakeMobility(false, %d) = % x", n, got)
		}
		want[2] = 1
		if got := MakeMobility(true, n); got != want {
			t.Errorf("MakeMobility(true, %d) = % x", n, got)
		}
	}
}

func TestMakeLabel(t *testing.T) {
	for _, n := range numbers {
		for flag, single := range []bool{false, true} {
			want, wantErr := api.Comm{6, 1, byte(flag), 0, 0, byte(n >> 16), byte(n >> 8), byte(n)}, api.OK
			if n > 16777215 {
				want, wantErr = api.Comm{}, api.ErrArg
			}
			if got, e := MakeLabel(single, n); got != want || e != wantErr {
				t.Errorf("MakeLabel(%v, %d) = % x, %d", single, n, got, e)
			}
		}
	}
}

func TestMakeImportAndRouter(t *testing.T) {
	for _, m := range macs {
		if got := MakeImport(m); got != withTail(6, 2, m) {
			t.Errorf("MakeImport(%v) = % x", m, got)
		}
		if got := MakeRouter(m); got != withTail(6, 3, m) {
			t.Errorf("MakeRouter(%v) = % x", m, got)
		}
	}
}

func TestMakeEncap(t *testing.T) {
	for n := range 65536 {
		if got := MakeEncap(uint16(n)); got != (api.Comm{3, 12, 0, 0, 0, 0, byte(n >> 8), byte(n)}) {
			t.Fatalf("MakeEncap(%d) = % x", n, got)
		}
	}
}

// P4.4

func TestTargetsAreReadAsTheyWereMade(t *testing.T) {
	for _, as := range numbers {
		for _, n := range numbers {
			c, e := MakeTarget(as, n)
			if e != api.OK {
				continue
			}
			want := Fields{Kind: Target, As: as, N: n}
			if as > 65535 {
				want.Form = 2
			}
			if got := Read(c); got != want {
				t.Errorf("MakeTarget(%d, %d) is read as %+v", as, n, got)
			}
		}
	}
}

func TestFlaggedAreReadAsTheyWereMade(t *testing.T) {
	for _, n := range numbers {
		for _, flag := range []bool{false, true} {
			if got := Read(MakeMobility(flag, n)); got != (Fields{Kind: Mobility, Flag: flag, N: n}) {
				t.Errorf("MakeMobility(%v, %d) is read as %+v", flag, n, got)
			}
			if c, e := MakeLabel(flag, n); e == api.OK && Read(c) != (Fields{Kind: Label, Flag: flag, N: n}) {
				t.Errorf("MakeLabel(%v, %d) is read as %+v", flag, n, Read(c))
			}
		}
	}
}

func TestMacsAndEncapsAreReadAsTheyWereMade(t *testing.T) {
	for _, m := range macs {
		if got := Read(MakeImport(m)); got != (Fields{Kind: Import, Mac: m}) {
			t.Errorf("MakeImport(%v) is read as %+v", m, got)
		}
		if got := Read(MakeRouter(m)); got != (Fields{Kind: Router, Mac: m}) {
			t.Errorf("MakeRouter(%v) is read as %+v", m, got)
		}
	}
	for _, n := range []uint16{0, 1, 8, 255, 256, 0x0102, 65534, 65535} {
		if got := Read(MakeEncap(n)); got != (Fields{Kind: Encap, N: uint32(n)}) {
			t.Errorf("MakeEncap(%d) is read as %+v", n, got)
		}
	}
}

func TestChapterExample(t *testing.T) {
	if c, e := MakeTarget(65000, 100); c != (api.Comm{0x00, 0x02, 0xfd, 0xe8, 0x00, 0x00, 0x00, 0x64}) || e != api.OK || Text(c) != "rt 65000:100" {
		t.Error(c, e, Text(c))
	}
	if c, e := MakeTarget(70000, 7); c != (api.Comm{0x02, 0x02, 0x00, 0x01, 0x11, 0x70, 0x00, 0x07}) || e != api.OK || Text(c) != "rt 70000L:7" {
		t.Error(c, e, Text(c))
	}
	if c, e := MakeTarget(70000, 70000); c != (api.Comm{}) || e != api.ErrArg {
		t.Error(c, e)
	}
	if c := MakeMobility(true, 5); c != (api.Comm{0x06, 0x00, 0x01, 0x00, 0x00, 0x00, 0x00, 0x05}) || Text(c) != "mobility 5 sticky" {
		t.Error(c, Text(c))
	}
}
