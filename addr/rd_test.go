package addr

import (
	"math"
	"strings"
	"testing"

	"weft/api"
)

// P2.6

func TestRdTextAndBack(t *testing.T) {
	for s, r := range map[string]api.Rd{
		"0:0":                   {},
		"65000:100":             {0, 0, 0xfd, 0xe8, 0, 0, 0, 0x64},
		"258:50595078":          {0, 0, 1, 2, 3, 4, 5, 6},
		"65535:4294967295":      {0, 0, 255, 255, 255, 255, 255, 255},
		"0:4294967295":          {0, 0, 0, 0, 255, 255, 255, 255},
		"65535:0":               {0, 0, 255, 255, 0, 0, 0, 0},
		"0.0.0.0:0":             {0, 1},
		"10.0.0.1:100":          {0, 1, 10, 0, 0, 1, 0, 100},
		"1.2.3.4:1286":          {0, 1, 1, 2, 3, 4, 5, 6},
		"255.255.255.255:65535": {0, 1, 255, 255, 255, 255, 255, 255},
		"0L:0":                  {0, 2},
		"65000L:100":            {0, 2, 0, 0, 0xfd, 0xe8, 0, 0x64},
		"16909060L:1286":        {0, 2, 1, 2, 3, 4, 5, 6},
		"4294967295L:65535":     {0, 2, 255, 255, 255, 255, 255, 255},
	} {
		if got, e := RdText(r); got != s || e != api.OK {
			t.Errorf("RdText(%v) = %q, %d; want %q", r, got, e, s)
		}
		if got, e := ParseRd(s); got != r || e != api.OK {
			t.Errorf("ParseRd(%q) = %v, %d", s, got, e)
		}
	}
}

func TestRdTextOfEachKind(t *testing.T) {
	for kind := range 1 << 16 {
		r := api.Rd{byte(kind >> 8), byte(kind), 1, 2, 3, 4, 5, 6}
		s, e := RdText(r)
		if kind <= 2 && (s == "" || e != api.OK) || kind > 2 && (s != "" || e != api.ErrArg) {
			t.Errorf("RdText(%v) = %q, %d", r, s, e)
		}
	}
}

func TestRdTextsThatAreNone(t *testing.T) {
	for _, s := range []string{
		"", ":", "::", "1", "1:", ":1", "1:2:", ":1:2", "1:2:3", "1::2", "1;2", "1.2", "L", "L:", "L:1", ":L", "1L", "1L:", "1:L", "1:2L", "1LL:2", "L1:2", "1l:2", "1L:2L", "1 L:2", "1L :2",
		"65536:0", "70000:7", "0:4294967296", "4294967296L:0", "0L:65536", "1L:65536", "10.0.0.1:65536", "18446744073709551616:0", "0:18446744073709551616",
		"01:2", "1:02", "00:0", "0:00", "01L:2", "1L:02", "10.0.0.1:00", "10.0.0.01:1", "-1:2", "1:-2", "+1:2", "1:+2", " 1:2", "1:2 ", "1: 2", "a:1", "1:a", "0x1:2", "é:1",
		"10.0.0:1", "10.0.0.0.1:1", "10.0.0.256:1", "10.0.0.1L:1", "10.0.0.1", "10.0.0.1:", ".:1", "...:1", "1.:1", "1:10.0.0.1", "1.5:2", "1:2.0", "::1:2", "1.2.3.4:5:6",
		strings.Repeat(":", 5000), strings.Repeat("L", 5000), strings.Repeat("1", 5000) + ":1", "1:" + strings.Repeat("1", 5000),
	} {
		if r, e := ParseRd(s); r != (api.Rd{}) || e != api.ErrText {
			t.Errorf("ParseRd(%.60q) = %v, %d", s, r, e)
		}
	}
}

func TestRouterRd(t *testing.T) {
	for _, id := range []uint32{0, 1, 0x0a000001, 0x01020304, math.MaxUint32} {
		for _, n := range []int{0, 1, 100, 255, 256, 4094, 0x0506, 65534, 65535} {
			want := api.Rd{0, 1, byte(id >> 24), byte(id >> 16), byte(id >> 8), byte(id), byte(n >> 8), byte(n)}
			if got, e := RouterRd(id, n); got != want || e != api.OK {
				t.Errorf("RouterRd(%x, %d) = %v, %d", id, n, got, e)
			}
		}
		for _, n := range []int{math.MinInt, math.MinInt32, -65536, -65535, -1, 65536, 65537, 1 << 32, math.MaxInt32, math.MaxInt} {
			if got, e := RouterRd(id, n); got != (api.Rd{}) || e != api.ErrArg {
				t.Errorf("RouterRd(%x, %d) = %v, %d", id, n, got, e)
			}
		}
	}
}

// P2.7

func TestRdsAreReadAgain(t *testing.T) {
	for kind := range 3 {
		for at := 2; at < 8; at++ {
			for x := range 256 {
				for _, rest := range []byte{0, 1, 255} {
					r := api.Rd{0, byte(kind), rest, rest, rest, rest, rest, rest}
					r[at] = byte(x)
					s, e := RdText(r)
					if e != api.OK {
						t.Fatalf("RdText(%v): error %d", r, e)
					}
					if got, e := ParseRd(s); got != r || e != api.OK {
						t.Fatalf("ParseRd(%q) = %v, %d", s, got, e)
					}
				}
			}
		}
	}
}

// The chapter's second example, as far as it speaks of distinguishers.
func TestChapterExampleRds(t *testing.T) {
	if s, e := RdText(api.Rd{0, 1, 0x0a, 0, 0, 1, 0, 0x64}); s != "10.0.0.1:100" || e != api.OK {
		t.Error(s, e)
	}
	if r, e := ParseRd("65000:100"); r != (api.Rd{0, 0, 0xfd, 0xe8, 0, 0, 0, 0x64}) || e != api.OK {
		t.Error(r, e)
	}
	if r, e := ParseRd("65000L:100"); r != (api.Rd{0, 2, 0, 0, 0xfd, 0xe8, 0, 0x64}) || e != api.OK {
		t.Error(r, e)
	}
}
