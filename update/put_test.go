package update

import (
	"bytes"
	"math"
	"slices"
	"testing"

	"weft/api"
	"weft/attr"
	"weft/nlri"
)

func expectPut(t *testing.T, u api.Update, want ...byte) {
	t.Helper()
	if got, e := Put(u); e != api.OK || !bytes.Equal(got, want) {
		t.Errorf("Put(%v) = % x, %d; want % x", u, got, e, want)
	}
}

func expectPutError(t *testing.T, u api.Update, want api.Errno) {
	t.Helper()
	if got, e := Put(u); e != want || len(got) != 0 {
		t.Errorf("Put answers %d bytes, error %d; want %d", len(got), e, want)
	}
}

// body answers a body without elder routes around these attributes.
func body(attrs ...[]byte) []byte {
	b := join(attrs...)
	return join([]byte{0, 0, byte(len(b) >> 8), byte(len(b))}, b)
}

// plain are the attributes of an update of which only Pref is told, ahead of AReach.
func plain(pref byte) []byte {
	return []byte{64, 1, 1, 0, 64, 2, 0, 64, 5, 4, 0, 0, 0, pref}
}

// flagged answers AReach or AUnreach around that value, with the flags that it must have.
func flagged(kind byte, parts ...[]byte) []byte {
	v := join(parts...)
	if len(v) > 255 {
		return join([]byte{144, kind, byte(len(v) >> 8), byte(len(v))}, v)
	}
	return join([]byte{128, kind, byte(len(v))}, v)
}

var (
	ours  = []byte{0, 25, 70}
	next4 = []byte{4, 10, 0, 0, 1, 0}
	next6 = []byte{16, 32, 1, 13, 184, 0, 0, 0, 0, 0, 0, 0, 0, 0, 0, 0, 9, 0}
)

// routesOf answers routes that have n bytes; false, if there are none such.
func routesOf(n int) ([]api.Route, bool) {
	l := kinds()
	last := make([]int, n+1) // the route by which so many bytes were reached, counted from 1 on
	size := make([]int, len(l))
	for i, r := range l {
		b, _ := nlri.Put(nil, r)
		size[i] = len(b)
	}
	for at := 1; at <= n; at++ {
		for i := range l {
			from := at - size[i]
			if from == 0 || from > 0 && last[from] > 0 {
				last[at] = i + 1
			}
		}
	}
	if n > 0 && last[n] == 0 {
		return nil, false
	}
	var out []api.Route
	for n > 0 {
		i := last[n] - 1
		out = append(out, l[i])
		n -= size[i]
	}
	return out, true
}

func mustRoutes(t *testing.T, n int) []api.Route {
	t.Helper()
	l, is := routesOf(n)
	if !is {
		t.Fatalf("no routes of %d bytes", n)
	}
	return l
}

func bytesOf(t *testing.T, l []api.Route) []byte {
	t.Helper()
	var out []byte
	for _, r := range l {
		b, e := nlri.Put(nil, r)
		if e != api.OK {
			t.Fatal(r, e)
		}
		out = append(out, b...)
	}
	return out
}

// P7.1: the body

func TestPutNothing(t *testing.T) {
	expectPut(t, api.Update{}, 0, 0, 0, 0)
	expectPut(t, api.Update{Reach: []api.Route{}, Unreach: []api.Route{}}, 0, 0, 0, 0)
	expectPut(t, api.Update{Attrs: whole().Attrs, Next: four}, 0, 0, 0, 0)
}

func TestPutOnlyUnreach(t *testing.T) {
	expectPut(t, api.Update{Unreach: []api.Route{flood()}}, body(flagged(15, ours, floodBytes))...)
	expectPut(t, api.Update{Unreach: []api.Route{flood(), segment(), flood()}, Reach: []api.Route{}}, body(flagged(15, ours, floodBytes, segmentBytes, floodBytes))...)
	want := join([]byte{0, 0, 0, 25, 128, 15, 22, 0, 25, 70}, floodBytes)
	expectPut(t, api.Update{Attrs: whole().Attrs, Next: six, Unreach: []api.Route{flood()}}, want...)
}

func TestPutOnlyReach(t *testing.T) {
	u := api.Update{Attrs: api.Attrs{Pref: 100}, Next: four, Reach: []api.Route{flood()}}
	expectPut(t, u, join([]byte{0, 0, 0, 45}, plain(100), []byte{128, 14, 28, 0, 25, 70, 4, 10, 0, 0, 1, 0}, floodBytes)...)
	u.Next, u.Reach = six, []api.Route{segment(), flood()}
	expectPut(t, u, body(plain(100), flagged(14, ours, next6, segmentBytes, floodBytes))...)
	expectPut(t, api.Update{Reach: []api.Route{flood()}}, body(plain(0), flagged(14, ours, []byte{4, 0, 0, 0, 0, 0}, floodBytes))...)
	none6 := api.Ip{V6: true}
	expectPut(t, api.Update{Next: none6, Reach: []api.Route{flood()}}, body(plain(0), flagged(14, ours, []byte{16}, make([]byte, 17), floodBytes))...)
}

func TestPutBothByRisingKinds(t *testing.T) {
	u := whole()
	u.Unreach = []api.Route{segment()}
	expectPut(t, u, body(
		[]byte{64, 1, 1, 2},
		[]byte{64, 2, 10, 2, 2, 0, 0, 253, 233, 1, 2, 3, 4},
		[]byte{128, 4, 4, 0, 0, 1, 0},
		[]byte{64, 5, 4, 0, 0, 0, 100},
		[]byte{128, 9, 4, 10, 0, 0, 7},
		[]byte{128, 10, 8, 0, 0, 0, 7, 0, 0, 0, 8},
		flagged(14, ours, next4, floodBytes, segmentBytes),
		flagged(15, ours, segmentBytes),
		[]byte{192, 16, 16, 0, 2, 253, 232, 0, 0, 0, 100, 6, 0, 1, 0, 0, 0, 0, 5},
		[]byte{192, 22, 9, 0, 6, 0, 0, 100, 10, 0, 0, 1},
	)...)
}

// Routes stand in the order that they are told in, twice where they are told twice.
func TestPutKeepsTheOrder(t *testing.T) {
	l := kinds()
	slices.Reverse(l)
	l = append(l, l[0], l[3], l[0])
	b := bytesOf(t, l)
	expectPut(t, api.Update{Unreach: l}, body(flagged(15, ours, b))...)
	expectPut(t, api.Update{Reach: l, Next: four}, body(plain(0), flagged(14, ours, next4, b))...)
	expectPut(t, api.Update{Reach: l, Unreach: l, Next: four}, body(plain(0), flagged(14, ours, next4, b), flagged(15, ours, b))...)
}

// The bit 16 stands there just where the value needs it.
func TestPutLongValues(t *testing.T) {
	seen := map[int]int{}
	for n := range 700 {
		l, is := routesOf(n)
		if !is || n == 0 {
			continue
		}
		b := bytesOf(t, l)
		if len(b) != n {
			t.Fatal(n, len(b))
		}
		expectPut(t, api.Update{Unreach: l}, body(flagged(15, ours, b))...)
		expectPut(t, api.Update{Reach: l, Next: four}, body(plain(0), flagged(14, ours, next4, b))...)
		expectPut(t, api.Update{Reach: l, Next: six, Unreach: l}, body(plain(0), flagged(14, ours, next6, b), flagged(15, ours, b))...)
		seen[3+n]++
		seen[9+n]++
		seen[21+n]++
	}
	if seen[255] != 3 || seen[256] != 3 {
		t.Errorf("255 bytes: %d, 256 bytes: %d", seen[255], seen[256])
	}
}

func TestPutValuesAtTheBound(t *testing.T) {
	rows := []struct {
		u     api.Update
		kind  int
		flags int
	}{
		{api.Update{Unreach: mustRoutes(t, 252)}, 15, 128},
		{api.Update{Unreach: mustRoutes(t, 253)}, 15, 144},
		{api.Update{Next: four, Reach: mustRoutes(t, 246)}, 14, 128},
		{api.Update{Next: four, Reach: mustRoutes(t, 247)}, 14, 144},
		{api.Update{Next: six, Reach: mustRoutes(t, 234)}, 14, 128},
		{api.Update{Next: six, Reach: mustRoutes(t, 235)}, 14, 144},
	}
	for i, r := range rows {
		b, e := Put(r.u)
		if e != api.OK {
			t.Fatal(i, e)
		}
		l, e := attr.Split(b[4:])
		at := attr.Place(l, r.kind)
		if e != api.OK || at < 0 {
			t.Fatal(i, l, e)
		}
		if l[at].Flags != r.flags || len(l[at].Value) != 255+i%2 {
			t.Errorf("row %d: flags %d, %d bytes", i, l[at].Flags, len(l[at].Value))
		}
	}
}

// P7.1: ErrFull

func TestPutBodiesAtTheirMost(t *testing.T) {
	four, six := api.Update{Next: four}, api.Update{Next: six}
	rows := []struct {
		u      api.Update
		around int // the body's bytes beside the routes
	}{
		{api.Update{}, 4 + 4 + 3},
		{four, 4 + 14 + 4 + 9},
		{six, 4 + 14 + 4 + 21},
		{api.Update{Next: four.Next, Attrs: api.Attrs{Path: make([]uint32, 255)}}, 4 + 15 + 1022 + 4 + 9},
		{api.Update{Next: four.Next, Attrs: whole().Attrs}, 4 + 4 + 13 + 7 + 7 + 7 + 11 + 19 + 12 + 4 + 9},
	}
	for i, r := range rows {
		for beyond := -2; beyond < 3; beyond++ {
			l := mustRoutes(t, 4077-r.around+beyond)
			u := r.u
			if i == 0 {
				u.Unreach = l
			} else {
				u.Reach = l
			}
			if beyond > 0 {
				expectPutError(t, u, api.ErrFull)
				continue
			}
			if b, e := Put(u); e != api.OK || len(b) != 4077+beyond {
				t.Errorf("row %d, %d: %d bytes, error %d", i, beyond, len(b), e)
			}
		}
	}
}

func TestPutBothAtTheirMost(t *testing.T) {
	for _, part := range []int{500, 1000, 2000, 3500} {
		u := api.Update{Next: four, Reach: mustRoutes(t, part)}
		u.Unreach = mustRoutes(t, 4077-4-14-4-9-4-3-part)
		if b, e := Put(u); e != api.OK || len(b) != 4077 {
			t.Errorf("%d bytes reached: %d bytes, error %d", part, len(b), e)
		}
		u.Unreach = mustRoutes(t, 4077-4-14-4-9-4-3-part+1)
		expectPutError(t, u, api.ErrFull)
	}
}

func TestPutFarTooMuch(t *testing.T) {
	for _, n := range []int{200, 1871, 1872, 1873, 1874, 5000, 50000} {
		expectPutError(t, api.Update{Reach: cards(n)}, api.ErrFull)
		expectPutError(t, api.Update{Unreach: cards(n)}, api.ErrFull)
		expectPutError(t, api.Update{Reach: cards(n), Unreach: cards(n)}, api.ErrFull)
	}
}

func TestPutAttrsThatAreFull(t *testing.T) {
	for _, a := range []api.Attrs{{Path: make([]uint32, 256)}, {Clusters: make([]uint32, 256)}, {Comms: make([]api.Comm, 256)}} {
		expectPutError(t, api.Update{Attrs: a, Reach: cards(1)}, api.ErrFull)
		expectPut(t, api.Update{Attrs: a}, 0, 0, 0, 0)
		expectPut(t, api.Update{Attrs: a, Unreach: []api.Route{flood()}}, body(flagged(15, ours, floodBytes))...)
	}
}

// P7.1: ErrArg

func TestPutRoutesThatAreNotRight(t *testing.T) {
	for _, r := range wrongRoutes() {
		for at := range 4 {
			l := slices.Insert(cards(3), at, r)
			expectPutError(t, api.Update{Next: four, Reach: l}, api.ErrArg)
			expectPutError(t, api.Update{Unreach: l}, api.ErrArg)
			expectPutError(t, api.Update{Next: four, Reach: cards(1), Unreach: l}, api.ErrArg)
			expectPutError(t, api.Update{Next: four, Reach: l, Unreach: cards(1)}, api.ErrArg)
		}
	}
}

func TestPutNextThatIsNotRight(t *testing.T) {
	for i := 4; i < 16; i++ {
		next := four
		next.B[i] = 1
		expectPutError(t, api.Update{Next: next, Reach: cards(1)}, api.ErrArg)
		expectPutError(t, api.Update{Next: next, Reach: cards(1), Unreach: cards(1)}, api.ErrArg)
		expectPut(t, api.Update{Next: next}, 0, 0, 0, 0)
		expectPut(t, api.Update{Next: next, Unreach: []api.Route{flood()}}, body(flagged(15, ours, floodBytes))...)
		next.V6 = true
		if _, e := Put(api.Update{Next: next, Reach: cards(1)}); e != api.OK {
			t.Errorf("an address of IPv6: %d", e)
		}
	}
}

// wrongAttrs are not right, for one reason each.
func wrongAttrs() []api.Attrs {
	return []api.Attrs{
		{Origin: 3}, {Origin: -1}, {Origin: math.MinInt}, {Med: 1}, {Pmsi: api.Pmsi{Label: 1}}, {Pmsi: api.Pmsi{Kind: 256}},
		{Pmsi: api.Pmsi{Kind: 6, Label: api.MaxLabel + 1}}, {Pmsi: api.Pmsi{Kind: 7, Ip: four}}, {Pmsi: api.Pmsi{Kind: 6, Ip: api.Ip{B: [16]byte{4: 1}}}},
	}
}

func TestPutAttrsThatAreNotRight(t *testing.T) {
	for _, a := range wrongAttrs() {
		expectPutError(t, api.Update{Attrs: a, Next: four, Reach: cards(1)}, api.ErrArg)
		expectPutError(t, api.Update{Attrs: a, Next: four, Reach: cards(1), Unreach: cards(1)}, api.ErrArg)
		expectPut(t, api.Update{Attrs: a}, 0, 0, 0, 0)
		expectPut(t, api.Update{Attrs: a, Unreach: []api.Route{flood()}}, body(flagged(15, ours, floodBytes))...)
	}
}

func TestPutArgAheadOfFull(t *testing.T) {
	wrongNext := api.Ip{B: [16]byte{15: 1}}
	fullAttrs := api.Attrs{Path: make([]uint32, 256)}
	many, wrong := cards(2000), append(cards(2000), api.Route{})
	rows := []api.Update{
		{Reach: wrong},
		{Unreach: wrong},
		{Reach: wrong, Attrs: fullAttrs},
		{Reach: many, Unreach: wrong, Attrs: fullAttrs},
		{Reach: wrong, Unreach: many},
		{Reach: many, Unreach: []api.Route{{}}},
		{Reach: []api.Route{{}}, Unreach: many},
		{Reach: cards(1), Unreach: many, Next: wrongNext},
		{Reach: many, Next: wrongNext},
		{Reach: cards(1), Next: wrongNext, Attrs: fullAttrs},
		{Reach: cards(1), Unreach: []api.Route{{}}, Attrs: fullAttrs},
	}
	for _, a := range wrongAttrs() {
		rows = append(rows, api.Update{Reach: many, Attrs: a}, api.Update{Reach: cards(1), Unreach: many, Attrs: a})
		a.Clusters = make([]uint32, 256)
		rows = append(rows, api.Update{Reach: cards(1), Attrs: a})
	}
	for i, u := range rows {
		if got, e := Put(u); e != api.ErrArg || len(got) != 0 {
			t.Errorf("row %d: %d bytes, error %d", i, len(got), e)
		}
	}
	expectPutError(t, api.Update{Unreach: many, Next: wrongNext, Attrs: api.Attrs{Origin: 9}}, api.ErrFull)
}

// Rule 4

func TestPutKeepsApart(t *testing.T) {
	u := roomy(whole())
	got, e := Put(u)
	if e != api.OK || !alike(u, whole()) || !isClean(u) {
		t.Errorf("the argument became %v, %d", u, e)
	}
	want := bytes.Clone(got)
	spoil(u)
	if !bytes.Equal(got, want) {
		t.Error("the answer hangs on its argument")
	}
	u = roomy(whole())
	for i := range got[:cap(got)] {
		got[:cap(got)][i] = 0xee
	}
	if !alike(u, whole()) || !isClean(u) {
		t.Errorf("the argument became %v", u)
	}
	if again, _ := Put(u); !bytes.Equal(again, want) {
		t.Error("the answer of one call reaches another one")
	}
}
