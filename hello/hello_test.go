package hello

import (
	"bytes"
	"math"
	"math/rand"
	"testing"

	"weft/api"
)

// familyCapability is the data of the fault that says that these routes aren't there.
var familyCapability = []byte{1, 4, 0, 25, 0, 70}

// sameFault holds what two faults say against each other: no data is one, nil or empty.
func sameFault(a, b api.Fault) bool {
	return a.Code == b.Code && a.Sub == b.Sub && bytes.Equal(a.Data, b.Data)
}

// scribble writes into an answer, its spare room too.
func scribble(b []byte) {
	b = b[:cap(b)]
	for i := range b {
		b[i] ^= 0x5a
	}
}

// eachFlags calls f with Evpn, Refresh and Wide in all their ways.
func eachFlags(f func(isEvpn, isRefresh, isWide bool)) {
	for n := range 8 {
		f(n&1 != 0, n&2 != 0, n&4 != 0)
	}
}

// anyHello answers a hello that may be right or not.
func anyHello(r *rand.Rand) api.Hello {
	numbers := []uint32{0, 1, 2, 23456, 65000, 65535, 65536, 70000, math.MaxUint32, r.Uint32()}
	holds := []int{math.MinInt, -65536, -3, -2, -1, 0, 1, 2, 3, 4, 5, 9, 90, 65534, 65535, 65536, math.MaxInt, r.Intn(70000)}
	return api.Hello{
		As:      numbers[r.Intn(len(numbers))],
		Hold:    holds[r.Intn(len(holds))],
		Id:      numbers[r.Intn(len(numbers))],
		Evpn:    r.Intn(4) > 0,
		Wide:    r.Intn(2) > 0,
		Refresh: r.Intn(2) > 0,
	}
}

// P8.3

func TestAgreeOnTerms(t *testing.T) {
	mine := api.Hello{As: 65000, Hold: 90, Id: 0x0a000001, Evpn: true, Wide: true, Refresh: true}
	theirs := api.Hello{As: 70000, Hold: 9, Id: 0x0a000002, Evpn: true, Refresh: true}
	want := api.Terms{As: 70000, Id: 0x0a000002, Hold: 9, Keep: 3, Refresh: true}
	if got, f, is := Agree(mine, theirs, 70000); !is || got != want || !sameFault(f, api.Fault{}) {
		t.Errorf("Agree = %v, %v, %v", got, f, is)
	}
	want = api.Terms{As: 65000, Id: 0x0a000001, Hold: 9, Keep: 3, Refresh: true}
	if got, f, is := Agree(theirs, mine, 65000); !is || got != want || !sameFault(f, api.Fault{}) {
		t.Errorf("Agree the other way = %v, %v, %v", got, f, is)
	}
}

func TestAgreeOnHoldAndKeep(t *testing.T) {
	for _, x := range []struct{ mine, theirs, hold, keep int }{
		{90, 9, 9, 3},
		{9, 90, 9, 3},
		{0, 0, 0, 0},
		{0, 90, 0, 0},
		{90, 0, 0, 0},
		{1, 90, 1, 0},
		{90, 2, 2, 0},
		{3, 3, 3, 1},
		{4, 90, 4, 1},
		{5, 90, 5, 1},
		{90, 6, 6, 2},
		{65535, 65535, 65535, 21845},
		{65535, 65534, 65534, 21844},
		{65536, 65537, 65536, 21845},
		{math.MaxInt, math.MaxInt, math.MaxInt, math.MaxInt / 3},
		{-1, 90, -1, -1},
		{90, -2, -2, -1},
		{-3, 0, -3, -1},
		{-4, -1, -4, -2},
		{-6, -6, -6, -2},
		{math.MinInt, math.MaxInt, math.MinInt, -3074457345618258603},
	} {
		mine := api.Hello{As: 1, Id: 1, Hold: x.mine, Evpn: true}
		theirs := api.Hello{As: 2, Id: 2, Hold: x.theirs, Evpn: true}
		want := api.Terms{As: 2, Id: 2, Hold: x.hold, Keep: x.keep}
		if got, f, is := Agree(mine, theirs, 2); !is || got != want || !sameFault(f, api.Fault{}) {
			t.Errorf("Agree of Hold %d and %d = %v, %v, %v", x.mine, x.theirs, got, f, is)
		}
	}
}

func TestAgreeOnRefresh(t *testing.T) {
	for _, x := range []struct{ mine, theirs, both bool }{{}, {mine: true}, {theirs: true}, {true, true, true}} {
		mine := api.Hello{As: 1, Id: 1, Evpn: true, Refresh: x.mine}
		theirs := api.Hello{As: 2, Id: 2, Evpn: true, Refresh: x.theirs}
		if got, _, is := Agree(mine, theirs, 2); !is || got.Refresh != x.both {
			t.Errorf("Agree of Refresh %v and %v = %v, %v", x.mine, x.theirs, got, is)
		}
	}
}

func TestAgreeTellsTheFirstFault(t *testing.T) {
	whichAs := api.Fault{Code: 2, Sub: 2}
	whichId := api.Fault{Code: 2, Sub: 3}
	noRoutes := api.Fault{Code: 2, Sub: 7, Data: familyCapability}
	for _, x := range []struct {
		isAs, isId   bool
		mine, theirs bool
		want         api.Fault
		isAgreed     bool
	}{
		{isAs: true, isId: true, mine: true, theirs: true, isAgreed: true},
		{isAs: false, isId: true, mine: true, theirs: true, want: whichAs},
		{isAs: true, isId: false, mine: true, theirs: true, want: whichId},
		{isAs: true, isId: true, mine: false, theirs: true, want: noRoutes},
		{isAs: true, isId: true, mine: true, theirs: false, want: noRoutes},
		{isAs: true, isId: true, mine: false, theirs: false, want: noRoutes},
		{isAs: false, isId: false, mine: true, theirs: true, want: whichAs},
		{isAs: false, isId: true, mine: false, theirs: true, want: whichAs},
		{isAs: false, isId: false, mine: false, theirs: false, want: whichAs},
		{isAs: true, isId: false, mine: true, theirs: false, want: whichId},
		{isAs: true, isId: false, mine: false, theirs: false, want: whichId},
	} {
		mine := api.Hello{As: 65001, Id: 7, Hold: 90, Evpn: x.mine}
		theirs := api.Hello{As: 65002, Id: 7, Hold: 90, Evpn: x.theirs}
		as := uint32(65001) // an end's own As is not what is asked for
		if x.isAs {
			as = 65002
		}
		if x.isId {
			theirs.Id = 8
		}
		got, f, is := Agree(mine, theirs, as)
		if is != x.isAgreed || !sameFault(f, x.want) {
			t.Errorf("%+v: Agree = %v, %v, %v", x, got, f, is)
		}
		if !is && got != (api.Terms{}) {
			t.Errorf("%+v: terms %v beside a fault", x, got)
		}
	}
}

func TestAgreeOfHellosThatAreNotRight(t *testing.T) {
	// As 0 and Id 0, an As that needs Wide, a Hold that no open can tell: they play no part.
	mine := api.Hello{Hold: 1, Evpn: true}
	theirs := api.Hello{As: 70000, Id: 1, Hold: 70000, Evpn: true}
	if got, f, is := Agree(mine, theirs, 70000); !is || got != (api.Terms{As: 70000, Id: 1, Hold: 1}) {
		t.Errorf("Agree = %v, %v, %v", got, f, is)
	}
	theirs = api.Hello{Hold: 2, Evpn: true}
	mine.Id = 9
	if got, f, is := Agree(mine, theirs, 0); !is || got != (api.Terms{Hold: 1}) {
		t.Errorf("Agree = %v, %v, %v", got, f, is)
	}
	if _, f, is := Agree(theirs, theirs, 0); is || !sameFault(f, api.Fault{Code: 2, Sub: 3}) {
		t.Errorf("Agree of Ids 0: %v, %v", f, is)
	}
	if _, f, is := Agree(api.Hello{}, api.Hello{}, 1); is || !sameFault(f, api.Fault{Code: 2, Sub: 2}) {
		t.Errorf("Agree of nothing: %v, %v", f, is)
	}
}

func TestAgreeAnswersNewMemory(t *testing.T) {
	for range 3 {
		_, f, _ := Agree(api.Hello{Id: 1}, api.Hello{Id: 2}, 0)
		if !sameFault(f, api.Fault{Code: 2, Sub: 7, Data: familyCapability}) {
			t.Fatalf("fault %v", f)
		}
		scribble(f.Data)
	}
}

// P8.5

func TestStays(t *testing.T) {
	l := []uint32{0, 1, 2, 3, 255, 256, 1<<31 - 1, 1 << 31, 1<<31 + 1, math.MaxUint32 - 1, math.MaxUint32}
	for i, mine := range l {
		for j, theirs := range l {
			if Stays(mine, theirs) != (i > j) {
				t.Errorf("Stays(%d, %d) = %v", mine, theirs, i <= j)
			}
		}
	}
}

// P8.6

func TestBothEndsAgreeAlike(t *testing.T) {
	r := rand.New(rand.NewSource(8))
	agreed := 0
	for range 20000 {
		a, b := anyHello(r), anyHello(r)
		ab, f, is := Agree(a, b, b.As)
		ba, g, isToo := Agree(b, a, a.As)
		if is != isToo || !sameFault(f, g) {
			t.Fatalf("%v, %v: one end agrees, %v, the other one not, %v", a, b, f, g)
		}
		if ab.Hold != ba.Hold || ab.Keep != ba.Keep || ab.Refresh != ba.Refresh {
			t.Fatalf("%v, %v: %v, but %v", a, b, ab, ba)
		}
		if is {
			agreed++
			if ab.As != b.As || ab.Id != b.Id || ba.As != a.As || ba.Id != a.Id {
				t.Fatalf("%v, %v: %v and %v", a, b, ab, ba)
			}
		}
	}
	if agreed < 1000 {
		t.Errorf("only %d pairs agreed", agreed)
	}
}
