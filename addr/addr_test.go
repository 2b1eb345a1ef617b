package addr

import (
	"math"
	"testing"

	"weft/api"
)

// P1 and P2.7: every text of four of these signs ends every call, and what is read of it, written again, is read as the same.
func TestOddTexts(t *testing.T) {
	const signs = "0129aFgL:./+- \x00\xff"
	n := len(signs)
	for i := range n * n * n * n {
		s := string([]byte{signs[i%n], signs[i/n%n], signs[i/n/n%n], signs[i/n/n/n]})
		for cut := range 5 {
			readAgain(t, s[cut:])
		}
	}
}

func readAgain(t *testing.T, s string) {
	t.Helper()
	if n, ok := Digits(s, math.MaxUint64); ok && Decimal(n) != s {
		t.Errorf("Digits(%q) = %d", s, n)
	}
	if m, e := ParseMac(s); e != api.ErrText {
		t.Errorf("ParseMac(%q) = %v, %d", s, m, e)
	}
	if x, e := ParseEsi(s); e != api.ErrText {
		t.Errorf("ParseEsi(%q) = %v, %d", s, x, e)
	}
	if a, e := ParseIp(s); e == api.OK {
		u, _ := IpText(a)
		if again, e := ParseIp(u); again != a || e != api.OK {
			t.Errorf("ParseIp(%q) = %v, is written %q", s, a, u)
		}
	}
	if p, e := ParsePrefix(s); e == api.OK {
		u, _ := PrefixText(p)
		if again, e := ParsePrefix(u); again != p || e != api.OK {
			t.Errorf("ParsePrefix(%q) = %v, is written %q", s, p, u)
		}
	}
	if r, e := ParseRd(s); e == api.OK {
		if u, e := RdText(r); u != s || e != api.OK {
			t.Errorf("ParseRd(%q) = %v, is written %q", s, r, u)
		}
	}
}
