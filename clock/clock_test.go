package clock

import (
	"cmp"
	"math"
	"slices"
	"strconv"
	"strings"
	"testing"

	"weft/api"
)

// name is a type that has an order because it is made of one that has.
type name string

func expectSet[K cmp.Ordered](t *testing.T, c *Clock[K], k K, at int, want api.Errno) {
	t.Helper()
	if e := c.Set(k, at); e != want {
		t.Errorf("Set(%v, %d) = %d, want %d", k, at, e, want)
	}
}

func expectDue[K cmp.Ordered](t *testing.T, c *Clock[K], now int, want ...K) {
	t.Helper()
	got := c.Due(now)
	if !slices.EqualFunc(got, want, func(a, b K) bool { return cmp.Compare(a, b) == 0 }) {
		t.Errorf("Due(%d) = %v, want %v", now, got, want)
	}
}

func expectAt[K cmp.Ordered](t *testing.T, c *Clock[K], k K, at int, is bool) {
	t.Helper()
	if got, ok := c.At(k); got != at || ok != is {
		t.Errorf("At(%v) = %d, %v, want %d, %v", k, got, ok, at, is)
	}
}

func expectNext[K cmp.Ordered](t *testing.T, c *Clock[K], at int, is bool) {
	t.Helper()
	if got, ok := c.Next(); got != at || ok != is {
		t.Errorf("Next = %d, %v, want %d, %v", got, ok, at, is)
	}
}

func expectLen[K cmp.Ordered](t *testing.T, c *Clock[K], want int) {
	t.Helper()
	if got := c.Len(); got != want {
		t.Errorf("Len = %d, want %d", got, want)
	}
}

func expectCancel[K cmp.Ordered](t *testing.T, c *Clock[K], k K, want bool) {
	t.Helper()
	if got := c.Cancel(k); got != want {
		t.Errorf("Cancel(%v) = %v, want %v", k, got, want)
	}
}

// expectNone asks for a clock without alarms.
func expectNone[K cmp.Ordered](t *testing.T, c *Clock[K], k K) {
	t.Helper()
	expectLen(t, c, 0)
	expectNext(t, c, 0, false)
	expectAt(t, c, k, 0, false)
	expectCancel(t, c, k, false)
	expectDue(t, c, math.MaxInt)
}

// full answers a clock of the keys from 0 on, as many as there is room for, each at the time of its own number.
func full(t *testing.T) *Clock[int] {
	t.Helper()
	c := Ints()
	for k := range api.MaxAlarms {
		expectSet(t, c, k, k, api.OK)
	}
	expectLen(t, c, api.MaxAlarms)
	return c
}

func TestExample(t *testing.T) {
	c := New[int]()
	expectSet(t, c, 2, 50, api.OK)
	expectSet(t, c, 1, 50, api.OK)
	expectSet(t, c, 3, 40, api.OK)
	expectDue(t, c, 45, 3)
	expectSet(t, c, 2, 60, api.OK)
	expectDue(t, c, 50, 1)
	expectNext(t, c, 60, true)
	expectSet(t, c, 9, -1, api.ErrArg)
	expectLen(t, c, 1)
}

// P10.1: what makers answer has no alarms, and is no other one's clock.
func TestMakers(t *testing.T) {
	expectNone(t, New[int](), 0)
	expectNone(t, New[string](), "")
	expectNone(t, New[name](), "")
	expectNone(t, New[float64](), 0)
	expectNone(t, Ints(), 0)
	expectNone(t, Texts(), "")
	for _, two := range [][2]*Clock[int]{{New[int](), New[int]()}, {Ints(), Ints()}} {
		expectSet(t, two[0], 1, 5, api.OK)
		expectNone(t, two[1], 1)
		expectSet(t, two[1], 1, 7, api.OK)
		expectAt(t, two[0], 1, 5, true)
		expectDue(t, two[0], 7, 1)
		expectAt(t, two[1], 1, 7, true)
		expectLen(t, two[1], 1)
	}
	one, other := Texts(), Texts()
	expectSet(t, one, "a", 5, api.OK)
	expectNone(t, other, "a")
}

// P10.1: the key of each type may be set in any order, and is told in its own.
func TestKeysOfManyTypes(t *testing.T) {
	inAnyOrder(t, Ints, []int{math.MinInt, -2, -1, 0, 1, 9, 10, math.MaxInt})
	inAnyOrder(t, Texts, []string{"", "\x00", "A", "a", "a\x00", "aa", "b", "\x7f", "\x80", "\xff"})
	inAnyOrder(t, New[name], []name{"", "10", "9", "a"})
	inAnyOrder(t, New[uint8], []uint8{0, 1, 127, 128, 255})
	inAnyOrder(t, New[int8], []int8{-128, -1, 0, 1, 127})
	inAnyOrder(t, New[uint64], []uint64{0, 1, 1 << 63, math.MaxUint64})
	inAnyOrder(t, New[float64], []float64{math.NaN(), math.Inf(-1), -1.5, 0, 0.25, 1, math.Inf(1)})
}

// inAnyOrder takes keys in rising order.
func inAnyOrder[K cmp.Ordered](t *testing.T, maker func() *Clock[K], keys []K) {
	t.Helper()
	for step := range len(keys) {
		c := maker()
		for i := range keys { // in leaps, so that the keys come in an order of their own
			expectSet(t, c, keys[(i*step+step)%len(keys)], 5, api.OK)
		}
		for i := range keys {
			expectSet(t, c, keys[len(keys)-1-i], 5, api.OK)
		}
		expectLen(t, c, len(keys))
		expectNext(t, c, 5, true)
		for _, k := range keys {
			expectAt(t, c, k, 5, true)
		}
		expectDue(t, c, 4)
		expectDue(t, c, 5, keys...)
		expectNone(t, c, keys[0])
	}
	eachAtItsTime(t, maker(), keys)
}

// eachAtItsTime has the greatest key told first, and cancels the least one.
func eachAtItsTime[K cmp.Ordered](t *testing.T, c *Clock[K], keys []K) {
	t.Helper()
	for i, k := range keys {
		expectSet(t, c, k, 100-i, api.OK)
		expectAt(t, c, k, 100-i, true)
	}
	expectCancel(t, c, keys[0], true)
	expectCancel(t, c, keys[0], false)
	expectAt(t, c, keys[0], 0, false)
	for i := len(keys) - 1; i > 0; i-- {
		expectNext(t, c, 100-i, true)
		expectDue(t, c, 100-i, keys[i])
		expectAt(t, c, keys[i], 0, false)
		expectLen(t, c, i-1)
	}
	expectNone(t, c, keys[0])
}

// P10.1: a float that is no number is one key, and so are both zeros.
func TestFloatsThatEqualOddly(t *testing.T) {
	c := New[float64]()
	expectSet(t, c, math.NaN(), 5, api.OK)
	expectSet(t, c, -math.NaN(), 9, api.OK)
	expectLen(t, c, 1)
	expectAt(t, c, math.NaN(), 9, true)
	expectSet(t, c, math.Copysign(0, -1), 9, api.OK)
	expectSet(t, c, 0, 8, api.OK)
	expectLen(t, c, 2)
	expectAt(t, c, math.Copysign(0, -1), 8, true)
	expectDue(t, c, 9, 0, math.NaN())
	expectSet(t, c, math.NaN(), 9, api.OK)
	expectCancel(t, c, math.NaN(), true)
	expectNone(t, c, math.NaN())
}

// P10.1: what is a time, and what is none.
func TestTimes(t *testing.T) {
	for _, at := range []int{0, 1, api.MaxTime - 1, api.MaxTime} {
		c := Ints()
		expectSet(t, c, 7, at, api.OK)
		expectAt(t, c, 7, at, true)
		expectNext(t, c, at, true)
		expectDue(t, c, at-1)
		expectDue(t, c, at, 7)
		expectNone(t, c, 7)
	}
	for _, at := range []int{-1, api.MaxTime + 1, math.MinInt, math.MaxInt, 1 << 41} {
		c := Ints()
		expectSet(t, c, 7, at, api.ErrArg)
		expectNone(t, c, 7)
		expectSet(t, c, 7, 3, api.OK)
		expectSet(t, c, 7, at, api.ErrArg)
		expectAt(t, c, 7, 3, true)
		expectLen(t, c, 1)
		expectDue(t, c, 2)
		expectDue(t, c, 3, 7)
	}
}

// P10.1: set anew, an alarm is at the new time and no longer at the old one.
func TestSetAnew(t *testing.T) {
	for _, at := range []int{0, 10, 19, 20, 21, 30, 40} {
		c := Ints()
		expectSet(t, c, 1, 10, api.OK)
		expectSet(t, c, 2, 20, api.OK)
		expectSet(t, c, 3, 30, api.OK)
		expectSet(t, c, 2, at, api.OK)
		expectLen(t, c, 3)
		expectAt(t, c, 1, 10, true)
		expectAt(t, c, 2, at, true)
		expectAt(t, c, 3, 30, true)
		expectNext(t, c, min(at, 10), true)
		var told []int
		for now := range 41 {
			l := c.Due(now)
			if slices.Contains(l, 2) != (now == at) {
				t.Errorf("set anew at %d: Due(%d) = %v", at, now, l)
			}
			told = append(told, l...)
		}
		slices.Sort(told)
		if !slices.Equal(told, []int{1, 2, 3}) {
			t.Errorf("set anew at %d: told %v in all", at, told)
		}
	}
}

// P10.1: of as many alarms as may be.
func TestFull(t *testing.T) {
	c := full(t)
	expectSet(t, c, -1, 5, api.ErrFull)
	expectSet(t, c, api.MaxAlarms, 5, api.ErrFull)
	expectLen(t, c, api.MaxAlarms)
	expectAt(t, c, -1, 0, false)
	expectCancel(t, c, -1, false)
	for _, k := range []int{0, 500, api.MaxAlarms - 1} { // one of those that are there
		expectSet(t, c, k, 9999, api.OK)
		expectAt(t, c, k, 9999, true)
		expectSet(t, c, k, k, api.OK)
	}
	expectLen(t, c, api.MaxAlarms)

	expectCancel(t, c, 500, true)
	expectSet(t, c, -1, 5, api.OK)
	expectSet(t, c, 500, 5, api.ErrFull)
	expectDue(t, c, 0, 0)
	expectSet(t, c, 500, 5, api.OK)
	expectSet(t, c, 0, 5, api.ErrFull)
	expectLen(t, c, api.MaxAlarms)
	expectDue(t, c, 5, 1, 2, 3, 4, -1, 5, 500)
	expectLen(t, c, api.MaxAlarms-7)
}

// P10.1: no time is told ahead of no room; and what is refused leaves each alarm as it was.
func TestRefused(t *testing.T) {
	c := full(t)
	expectSet(t, c, -1, -1, api.ErrArg)
	expectSet(t, c, -1, api.MaxTime+1, api.ErrArg)
	expectSet(t, c, -1, 0, api.ErrFull)
	expectSet(t, c, -1, api.MaxTime, api.ErrFull)
	expectSet(t, c, 7, -1, api.ErrArg)
	expectSet(t, c, 7, api.MaxTime+1, api.ErrArg)
	expectLen(t, c, api.MaxAlarms)
	for k := range api.MaxAlarms {
		expectAt(t, c, k, k, true)
	}
	for k := range api.MaxAlarms {
		expectDue(t, c, k, k)
	}
	expectNone(t, c, -1)
}

// P10.1: Cancel and At of keys that are not there.
func TestKeysThatAreNotThere(t *testing.T) {
	c := Texts()
	expectSet(t, c, "b", 10, api.OK)
	expectSet(t, c, "c", 20, api.OK)
	expectSet(t, c, "d", 10, api.OK)
	for _, k := range []string{"", "a", "bb", "e"} {
		expectAt(t, c, k, 0, false)
		expectCancel(t, c, k, false)
	}
	expectLen(t, c, 3)
	expectCancel(t, c, "b", true)
	expectAt(t, c, "b", 0, false)
	expectCancel(t, c, "b", false)
	expectAt(t, c, "c", 20, true)
	expectAt(t, c, "d", 10, true)
	expectDue(t, c, 10, "d") // not the cancelled one
	expectAt(t, c, "d", 0, false)
	expectCancel(t, c, "d", false)
	expectSet(t, c, "b", 20, api.OK) // behind Cancel a key may come anew, behind Due too
	expectSet(t, c, "d", 15, api.OK)
	expectDue(t, c, 20, "d", "b", "c")
	expectNone(t, c, "b")
}

// A key at the time 0 is there, unlike one that is not, of which At tells 0 too.
func TestAtOfTimeZero(t *testing.T) {
	c := Ints()
	expectSet(t, c, 0, 0, api.OK)
	expectAt(t, c, 0, 0, true)
	expectNext(t, c, 0, true)
	expectAt(t, c, 1, 0, false)
	expectDue(t, c, 0, 0)
	expectNext(t, c, 0, false)
}

// P10.2: the earlier time first; of one time the lesser key.
func TestOrder(t *testing.T) {
	c := Ints()
	for _, k := range []int{10, -1, 9, 0, -10, 2} {
		expectSet(t, c, k, 50, api.OK)
		expectSet(t, c, k+100, 40, api.OK)
		expectSet(t, c, k+200, 60, api.OK)
	}
	expectDue(t, c, 60, 90, 99, 100, 102, 109, 110, -10, -1, 0, 2, 9, 10, 190, 199, 200, 202, 209, 210)

	x := Texts()
	for _, k := range []string{"b", "", "ab", "a", "10", "9", "\xff"} {
		expectSet(t, x, k, 50, api.OK)
	}
	expectSet(t, x, "z", 49, api.OK)
	expectDue(t, x, 50, "z", "", "10", "9", "a", "ab", "b", "\xff")
}

// P10.2: now may be any number; an earlier one behind a later one tells no more.
func TestNows(t *testing.T) {
	c := Ints()
	for k, at := range []int{0, 10, 10, 20, api.MaxTime} {
		expectSet(t, c, k, at, api.OK)
	}
	expectDue(t, c, math.MinInt)
	expectDue(t, c, -1)
	expectLen(t, c, 5)
	expectNext(t, c, 0, true)
	expectDue(t, c, 0, 0)
	expectDue(t, c, 0)
	expectDue(t, c, 9)
	expectLen(t, c, 4)
	expectNext(t, c, 10, true)
	expectDue(t, c, 10, 1, 2)
	expectDue(t, c, 10)
	expectDue(t, c, 11)
	expectLen(t, c, 2)
	expectNext(t, c, 20, true)
	expectDue(t, c, 25, 3)
	expectDue(t, c, 25)
	expectDue(t, c, 24)
	expectDue(t, c, -5)
	expectSet(t, c, 3, 5, api.OK) // a time that an asking has passed is due at the next one
	expectNext(t, c, 5, true)
	expectDue(t, c, 4)
	expectDue(t, c, 5, 3)
	expectNext(t, c, api.MaxTime, true)
	expectDue(t, c, api.MaxTime-1)
	expectDue(t, c, math.MaxInt, 4)
	expectNone(t, c, 4)
}

// P10.2: Next and Len behind each step.
func TestNextAndLen(t *testing.T) {
	c := Texts()
	expectNext(t, c, 0, false)
	expectSet(t, c, "b", 50, api.OK)
	expectNext(t, c, 50, true)
	expectSet(t, c, "a", 60, api.OK)
	expectNext(t, c, 50, true)
	expectSet(t, c, "c", 40, api.OK)
	expectNext(t, c, 40, true)
	expectLen(t, c, 3)
	expectSet(t, c, "c", 55, api.OK)
	expectNext(t, c, 50, true)
	expectLen(t, c, 3)
	expectCancel(t, c, "b", true)
	expectNext(t, c, 55, true)
	expectLen(t, c, 2)
	expectDue(t, c, 55, "c")
	expectNext(t, c, 60, true)
	expectLen(t, c, 1)
	expectNext(t, c, 60, true) // asking takes nothing away
	expectLen(t, c, 1)
}

// P10.3.
func TestNilClock(t *testing.T) {
	nilIs(t, (*Clock[int])(nil), 1)
	nilIs(t, (*Clock[string])(nil), "")
	nilIs(t, (*Clock[name])(nil), "a")
	nilIs(t, (*Clock[float64])(nil), math.NaN())
}

func nilIs[K cmp.Ordered](t *testing.T, c *Clock[K], k K) {
	t.Helper()
	for _, at := range []int{-1, 0, api.MaxTime, api.MaxTime + 1, math.MinInt, math.MaxInt} {
		expectSet(t, c, k, at, api.ErrNil)
		expectDue(t, c, at)
	}
	expectNone(t, c, k)
}

// Of a clock that no maker answered nothing is promised but that the calls end.
func TestClockOfNoMaker(t *testing.T) {
	var c Clock[int]
	c.Set(1, 5)
	c.Cancel(1)
	c.At(1)
	c.Due(5)
	c.Next()
	c.Len()
}

// P10.4: asked in two steps, wherever they part, the same keys come.
func TestTwoSteps(t *testing.T) {
	maker := func() *Clock[int] {
		c := Ints()
		for k := range 200 {
			expectSet(t, c, k*7%200-100, k*k%97, api.OK)
		}
		for k := range 40 {
			expectCancel(t, c, k*3-60, true)
			expectSet(t, c, k*2-40, k%13*8, api.OK)
		}
		return c
	}
	whole := maker().Due(97)
	for now := -1; now <= 98; now++ {
		c := maker()
		first := c.Due(now)
		for _, k := range first {
			if at, _ := maker().At(k); at > now {
				t.Errorf("Due(%d) told %d, whose time is %d", now, k, at)
			}
		}
		second := c.Due(97)
		if !slices.Equal(slices.Concat(first, second), whole) {
			t.Errorf("in steps %v, %v; in one %v", first, second, whole)
		}
		expectLen(t, c, 0)
	}
}

// P10.4: two clocks go side by side, and neither tells what the other one has.
func TestSideBySide(t *testing.T) {
	a, b := Ints(), Ints()
	for k := range 50 {
		expectSet(t, a, k, k, api.OK)
		expectSet(t, b, k, 50-k, api.OK)
	}
	for now := range 50 {
		expectDue(t, a, now, now)
		if now > 0 {
			expectDue(t, b, now, 50-now)
		}
		expectLen(t, a, 49-now)
		expectLen(t, b, 50-now)
	}
	expectNone(t, a, 1)
	expectDue(t, b, 50, 0)
	expectNone(t, b, 1)
}

// Rule 4: an answer is new memory, its spare room too.
func TestAnswersAreNewMemory(t *testing.T) {
	c := Texts()
	for _, k := range []string{"a", "b", "c", "d", "e", "f"} {
		expectSet(t, c, k, 10+len(k), api.OK)
		expectSet(t, c, k+k, 20, api.OK)
	}
	first := c.Due(11)
	for i := range first[:cap(first)] {
		first[:cap(first)][i] = "written"
	}
	expectLen(t, c, 6)
	expectAt(t, c, "aa", 20, true)
	expectAt(t, c, "ff", 20, true)
	expectAt(t, c, "written", 0, false)
	second := c.Due(20)
	want := []string{"aa", "bb", "cc", "dd", "ee", "ff"}
	if !slices.Equal(second, want) {
		t.Errorf("Due(20) = %v, want %v", second, want)
	}
	for _, k := range []string{"x", "y", "z"} {
		expectSet(t, c, k, 30, api.OK)
	}
	if !slices.Equal(second, want) {
		t.Errorf("an answer became %v behind later calls", second)
	}
	for i := range second[:cap(second)] {
		second[:cap(second)][i] = "written"
	}
	expectDue(t, c, 30, "x", "y", "z")
}

// What is kept is no more than the alarms that are there: a long text that was told or cancelled is let go.
func TestNothingToldIsKept(t *testing.T) {
	c := Texts()
	for i := range 20 {
		expectSet(t, c, strings.Repeat("x", 100)+strconv.Itoa(i), i, api.OK)
	}
	whole := c.alarms[:cap(c.alarms)]
	c.Due(9)
	expectCancel(t, c, strings.Repeat("x", 100)+"15", true)
	c.Due(30)
	for _, a := range whole {
		if a.key != "" {
			t.Errorf("a clock without alarms keeps the key %q", a.key)
		}
	}
}
