package comm

import (
	"fmt"
	"strings"
	"testing"

	"weft/addr"
	"weft/api"
)

// P4.2

func TestTexts(t *testing.T) {
	for c, want := range map[api.Comm]string{
		{0, 2}:                                   "rt 0:0",
		{0, 2, 0xfd, 0xe8, 0, 0, 0, 100}:         "rt 65000:100",
		{0, 2, 255, 255, 255, 255, 255, 255}:     "rt 65535:4294967295",
		{1, 2}:                                   "rt 0.0.0.0:0",
		{1, 2, 10, 0, 0, 1, 0, 5}:                "rt 10.0.0.1:5",
		{1, 2, 255, 255, 255, 255, 255, 255}:     "rt 255.255.255.255:65535",
		{2, 2}:                                   "rt 0L:0",
		{2, 2, 0, 1, 0x11, 0x70, 0, 7}:           "rt 70000L:7",
		{2, 2, 255, 255, 255, 255, 255, 255}:     "rt 4294967295L:65535",
		{6, 0}:                                   "mobility 0",
		{6, 0, 0, 0, 0, 0, 1, 0}:                 "mobility 256",
		{6, 0, 1, 0, 0, 0, 0, 5}:                 "mobility 5 sticky",
		{6, 0, 0xfe, 0xff, 0, 0, 0, 5}:           "mobility 5",
		{6, 0, 0xff, 0xff, 255, 255, 255, 255}:   "mobility 4294967295 sticky",
		{6, 1}:                                   "esi-label 0",
		{6, 1, 0, 0, 0, 0, 1, 0}:                 "esi-label 256",
		{6, 1, 1, 0, 0, 0, 0, 16}:                "esi-label 16 single",
		{6, 1, 0xfe, 0xff, 0xff, 255, 255, 255}:  "esi-label 16777215",
		{6, 1, 0xff, 0xff, 0xff, 0, 0, 0}:        "esi-label 0 single",
		{6, 2}:                                   "es-import 00:00:00:00:00:00",
		{6, 2, 1, 2, 3, 4, 5, 0xab}:              "es-import 01:02:03:04:05:ab",
		{6, 3, 2, 0, 0, 0, 0, 9}:                 "router 02:00:00:00:00:09",
		{6, 3, 0xff, 0xee, 0xdd, 0xcc, 0xbb, 10}: "router ff:ee:dd:cc:bb:0a",
		{3, 12}:                                  "encap 0",
		{3, 12, 0, 0, 0, 0, 0, 8}:                "encap 8",
		{3, 12, 255, 255, 255, 255, 255, 255}:    "encap 65535",
		{}:                                       "other 0000000000000000",
		{7, 7}:                                   "other 0707000000000000",
		{0, 3, 0x12, 0x34, 0x56, 0x78, 0x9a, 0}:  "other 0003123456789a00",
		{0xab, 0xcd, 0xef, 0xfe, 0xdc, 0xba, 255, 15}: "other abcdeffedcbaff0f",
		{6, 4, 1}:   "other 0604010000000000",
		{3, 2}:      "other 0302000000000000",
		{0x40, 2}:   "other 4002000000000000",
		{0x46, 0}:   "other 4600000000000000",
		{0x43, 12}:  "other 430c000000000000",
		{2, 0}:      "other 0200000000000000",
		{0, 6}:      "other 0006000000000000",
		{12, 3}:     "other 0c03000000000000",
		{255, 0xff}: "other ffff000000000000",
	} {
		if got := Text(c); got != want {
			t.Errorf("Text(% x) = %q, want %q", c, got, want)
		}
	}
}

// textOf writes a community by the table.
func textOf(c api.Comm) string {
	f := fieldsOf(c)
	flag := func(word string) string {
		if f.Flag {
			return word
		}
		return ""
	}
	switch {
	case f.Kind == 1 && f.Form == 1:
		return fmt.Sprintf("rt %d.%d.%d.%d:%d", c[2], c[3], c[4], c[5], f.N)
	case f.Kind == 1 && f.Form == 2:
		return fmt.Sprintf("rt %dL:%d", f.As, f.N)
	case f.Kind == 1:
		return fmt.Sprintf("rt %d:%d", f.As, f.N)
	case f.Kind == 2:
		return fmt.Sprintf("mobility %d%s", f.N, flag(" sticky"))
	case f.Kind == 3:
		return fmt.Sprintf("esi-label %d%s", f.N, flag(" single"))
	case f.Kind == 4:
		return fmt.Sprintf("es-import %02x:%02x:%02x:%02x:%02x:%02x", c[2], c[3], c[4], c[5], c[6], c[7])
	case f.Kind == 5:
		return fmt.Sprintf("router %02x:%02x:%02x:%02x:%02x:%02x", c[2], c[3], c[4], c[5], c[6], c[7])
	case f.Kind == 6:
		return fmt.Sprintf("encap %d", f.N)
	}
	return fmt.Sprintf("other %x", c[:])
}

func TestTextByTheTable(t *testing.T) {
	for _, l := range layouts {
		for _, tail := range tails() {
			c := withTail(l.first, l.second, tail)
			if got, want := Text(c), textOf(c); got != want {
				t.Fatalf("Text(% x) = %q, want %q", c, got, want)
			}
		}
	}
}

func TestTextOfEveryHead(t *testing.T) {
	for first := range 256 {
		for second := range 256 {
			c := withTail(byte(first), byte(second), [6]byte{0xff, 0xee, 0xdd, 0xcc, 0xbb, 0x0a})
			if got, want := Text(c), textOf(c); got != want {
				t.Fatalf("Text(% x) = %q, want %q", c, got, want)
			}
		}
	}
}

// P4.4

// A target is written as the distinguisher with its form and bytes, so what its text says is read back whole: no two texts are alike.
func TestTextTellsTargetsApart(t *testing.T) {
	for form := range 3 {
		for _, tail := range tails() {
			c := withTail(byte(form), 2, tail)
			s, is := strings.CutPrefix(Text(c), "rt ")
			rd, e := addr.ParseRd(s)
			if !is || e != api.OK || rd != api.Rd(withTail(0, byte(form), tail)) {
				t.Fatalf("Text(% x) = %q", c, Text(c))
			}
		}
	}
}

func TestTextsOfTargetsOfUnlikeForms(t *testing.T) {
	// The same numbers in each form, and the same bytes in each form.
	l := []api.Comm{
		{0, 2, 0, 1, 0, 0, 0, 2}, {1, 2, 0, 0, 0, 1, 0, 2}, {2, 2, 0, 0, 0, 1, 0, 2},
		{1, 2, 0, 1, 0, 0, 0, 2}, {2, 2, 0, 1, 0, 0, 0, 2}, {0, 2, 0, 0, 0, 1, 0, 2},
		{0, 2, 0, 11, 0, 0, 0, 1}, {0, 2, 0, 1, 0, 0, 0, 11}, {2, 2, 0, 0, 0, 11, 0, 1}, {2, 2, 0, 0, 0, 1, 0, 11},
	}
	for i, a := range l {
		for j, b := range l {
			if (Text(a) == Text(b)) != (i == j) {
				t.Errorf("% x and % x are both %q", a, b, Text(a))
			}
		}
	}
}
