package addr

import (
	"math"
	"math/big"
	"strings"
	"testing"
)

// P2.1

func TestDecimal(t *testing.T) {
	for n, want := range map[uint64]string{0: "0", 7: "7", 10: "10", 100: "100", 65535: "65535", 4294967296: "4294967296", math.MaxUint64: "18446744073709551615"} {
		if got := Decimal(n); got != want {
			t.Errorf("Decimal(%d) = %q", n, got)
		}
	}
}

func TestDigitsThatAreRead(t *testing.T) {
	rows := []struct {
		s    string
		most uint64
		want uint64
	}{
		{"0", 0, 0},
		{"0", math.MaxUint64, 0},
		{"1", 1, 1},
		{"9", 9, 9},
		{"10", 10, 10},
		{"100", 4094, 100},
		{"255", 255, 255},
		{"254", 255, 254},
		{"65535", 65535, 65535},
		{"18446744073709551615", math.MaxUint64, math.MaxUint64},
		{"18446744073709551614", math.MaxUint64, math.MaxUint64 - 1},
		{"18446744073709551609", math.MaxUint64 - 6, math.MaxUint64 - 6},
	}
	for _, r := range rows {
		if got, ok := Digits(r.s, r.most); got != r.want || !ok {
			t.Errorf("Digits(%q, %d) = %d, %v", r.s, r.most, got, ok)
		}
	}
}

func TestDigitsThatAreNone(t *testing.T) {
	for _, s := range []string{"", " ", "00", "01", "007", "0x1", "+1", "-1", "-0", "1 ", " 1", "1_0", "1.", "1e1", "a", "1a", "1/", "1:", "/", ":", "٣", "1\x00", "\xff", "é"} {
		if got, ok := Digits(s, math.MaxUint64); got != 0 || ok {
			t.Errorf("Digits(%q) = %d, %v", s, got, ok)
		}
	}
}

func TestDigitsAboveTheMost(t *testing.T) {
	rows := []struct {
		s    string
		most uint64
	}{
		{"1", 0},
		{"5", 4},
		{"10", 5},
		{"10", 9},
		{"256", 255},
		{"300", 255},
		{"1000", 255},
		{"65536", 65535},
		{"4294967296", math.MaxUint32},
		{"18446744073709551615", math.MaxUint64 - 1},
		{"18446744073709551616", math.MaxUint64},
		{"18446744073709551617", math.MaxUint64},
		{"18446744073709551620", math.MaxUint64},
		{"99999999999999999999", math.MaxUint64},
		{"184467440737095516150", math.MaxUint64},
		{"36893488147419103233", math.MaxUint64},
		{strings.Repeat("9", 5000), math.MaxUint64},
		{"1" + strings.Repeat("0", 64), math.MaxUint64},
	}
	for _, r := range rows {
		if got, ok := Digits(r.s, r.most); got != 0 || ok {
			t.Errorf("Digits(%q, %d) = %d, %v", r.s, r.most, got, ok)
		}
	}
}

func TestDigitsAtEveryMost(t *testing.T) {
	mosts := []uint64{0, 1, 8, 9, 10, 11, 99, 100, 255, 256, 65535, math.MaxUint32, math.MaxUint64/10 - 1, math.MaxUint64 / 10, math.MaxUint64/10 + 1, math.MaxUint64 - 1, math.MaxUint64}
	for _, most := range mosts {
		for _, n := range mosts {
			for step := int64(-2); step <= 2; step++ {
				x := new(big.Int).SetUint64(n)
				x.Add(x, big.NewInt(step))
				top := new(big.Int).SetUint64(most)
				want := x.Sign() >= 0 && x.Cmp(top) <= 0
				got, ok := Digits(x.String(), most)
				if ok != want || ok && got != x.Uint64() || !ok && got != 0 {
					t.Errorf("Digits(%s, %d) = %d, %v", x, most, got, ok)
				}
			}
		}
	}
}
