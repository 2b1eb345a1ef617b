package attr

import (
	"math"
	"math/rand"
	"testing"

	"weft/api"
)

// P5.5: Place

func TestPlace(t *testing.T) {
	l := []api.Raw{{Kind: 5}, {Kind: 1}, {Kind: 257}, {Kind: 1, Value: []byte{1}}, {Kind: -1}, {Kind: 0}, {Kind: math.MaxInt}, {Kind: 14}, {Kind: 5}}
	want := map[int]int{5: 0, 1: 1, 257: 2, -1: 4, 0: 5, math.MaxInt: 6, 14: 7}
	for kind, place := range want {
		if got := Place(l, kind); got != place {
			t.Errorf("kind %d: %d, want %d", kind, got, place)
		}
	}
	for _, kind := range []int{2, 15, 255, 256, 256 + 5, 256 + 14, -256, -2, math.MinInt} {
		if got := Place(l, kind); got != -1 {
			t.Errorf("kind %d: %d", kind, got)
		}
	}
	for kind := range 256 {
		if Place(nil, kind) != -1 || Place([]api.Raw{}, kind) != -1 {
			t.Errorf("kind %d stands in no list", kind)
		}
	}
}

// P5.5: Same

// turned answers copies of whole, each of which differs in one thing.
func turned() []api.Attrs {
	turns := []func(a *api.Attrs){
		func(a *api.Attrs) { a.Origin = 1 },
		func(a *api.Attrs) { a.Path = []uint32{65001, 5} },
		func(a *api.Attrs) { a.Path = []uint32{5, 0x01020304} },
		func(a *api.Attrs) { a.Path = []uint32{65001} },
		func(a *api.Attrs) { a.Path = []uint32{65001, 0x01020304, 0} },
		func(a *api.Attrs) { a.Path = []uint32{0x01020304, 65001} },
		func(a *api.Attrs) { a.Path = nil },
		func(a *api.Attrs) { a.HasMed = false },
		func(a *api.Attrs) { a.Med = 257 },
		func(a *api.Attrs) { a.Pref = 100 },
		func(a *api.Attrs) { a.Originator = 0 },
		func(a *api.Attrs) { a.Clusters = []uint32{7} },
		func(a *api.Attrs) { a.Clusters = []uint32{7, 8} },
		func(a *api.Attrs) { a.Clusters = []uint32{8, 0x80000008} },
		func(a *api.Attrs) { a.Clusters = []uint32{0x80000008, 7} },
		func(a *api.Attrs) { a.Clusters = nil },
		func(a *api.Attrs) { a.Comms = nil },
		func(a *api.Attrs) { a.Comms = a.Comms[:1] },
		func(a *api.Attrs) { a.Comms = []api.Comm{a.Comms[1], a.Comms[0]} },
		func(a *api.Attrs) { a.Comms = []api.Comm{a.Comms[0], {6, 0, 1, 0, 0, 0, 0, 6}} },
		func(a *api.Attrs) { a.Comms = []api.Comm{{1, 2, 253, 232, 0, 0, 0, 100}, a.Comms[1]} },
		func(a *api.Attrs) { a.Pmsi.Kind = 7 },
		func(a *api.Attrs) { a.Pmsi.Label = 0 },
		func(a *api.Attrs) { a.Pmsi.Ip.V6 = true },
		func(a *api.Attrs) { a.Pmsi.Ip.B[3] = 2 },
		func(a *api.Attrs) { a.Pmsi.Ip.B[15] = 2 },
	}
	l := make([]api.Attrs, len(turns))
	for i, turn := range turns {
		l[i] = whole()
		turn(&l[i])
	}
	return l
}

func TestSame(t *testing.T) {
	if !Same(whole(), whole()) || !Same(api.Attrs{}, api.Attrs{}) {
		t.Error("the same is not")
	}
	for i, a := range turned() {
		if Same(a, whole()) || Same(whole(), a) {
			t.Errorf("row %d is told as the same", i)
		}
		if !Same(a, a) {
			t.Errorf("row %d is not as itself", i)
		}
	}
}

func TestSameNilAndEmpty(t *testing.T) {
	empty := api.Attrs{Path: []uint32{}, Clusters: make([]uint32, 0, 4), Comms: []api.Comm{}}
	if !Same(api.Attrs{}, empty) || !Same(empty, api.Attrs{}) {
		t.Error("nil and empty are told apart")
	}
	if Same(api.Attrs{Path: []uint32{0}}, empty) || Same(empty, api.Attrs{Clusters: []uint32{0}}) || Same(empty, api.Attrs{Comms: []api.Comm{{}}}) {
		t.Error("one entry 0 is told as none")
	}
}

// What isn't right is held against each other too.
func TestSameOfWhatIsNotRight(t *testing.T) {
	wrong := api.Attrs{Origin: -7, Med: 3, Pmsi: api.Pmsi{Kind: 1 << 40, Label: math.MaxUint32}}
	if !Same(wrong, wrong) || Same(wrong, api.Attrs{Origin: -7, Pmsi: wrong.Pmsi}) {
		t.Error("wrong attributes")
	}
}

// P5.5: Copy

func TestCopy(t *testing.T) {
	for _, a := range append(turned(), whole(), api.Attrs{}, api.Attrs{Origin: 99, Med: 5, Path: []uint32{}}) {
		if got := Copy(a); !alike(got, a) {
			t.Errorf("Copy(%v) = %v", a, got)
		}
	}
	rnd := rand.New(rand.NewSource(10))
	for range 500 {
		a := randomAttrs(rnd)
		if !alike(Copy(a), a) || !Same(Copy(a), a) {
			t.Errorf("a copy of %v is another", a)
		}
	}
	long := api.Attrs{Path: make([]uint32, 300), Clusters: make([]uint32, 1000), Comms: make([]api.Comm, 700)}
	if !alike(Copy(long), long) {
		t.Error("long lists")
	}
}

// Rule 4

func TestCopyKeepsApart(t *testing.T) {
	a := whole()
	a.Path = append(make([]uint32, 0, 9), a.Path...)
	a.Clusters = append(make([]uint32, 0, 9), a.Clusters...)
	a.Comms = append(make([]api.Comm, 0, 9), a.Comms...)
	c := Copy(a)
	c.Path = append(c.Path, 1)
	c.Clusters = append(c.Clusters, 1)
	c.Comms = append(c.Comms, api.Comm{1})
	c.Path[0], c.Clusters[0], c.Comms[0] = 4, 4, api.Comm{4}
	if !alike(a, whole()) || a.Path[:3][2] != 0 || a.Clusters[:3][2] != 0 || a.Comms[:3][2] != (api.Comm{}) {
		t.Errorf("the argument became %v", a)
	}
	c = Copy(a)
	a.Path[1], a.Clusters[1], a.Comms[1] = 6, 6, api.Comm{6}
	if !alike(c, whole()) {
		t.Errorf("the copy became %v", c)
	}
	empty := api.Attrs{Path: make([]uint32, 0, 3)}
	if e := Copy(empty); cap(e.Path) > 0 {
		e.Path[:1][0] = 7
		if empty.Path[:1][0] == 7 {
			t.Error("an empty list's room is shared")
		}
	}
}
