package update

import (
	"bytes"
	"math"
	"slices"
	"testing"

	"weft/addr"
	"weft/api"
	"weft/nlri"
)

var (
	someRd  = api.Rd{0, 1, 10, 0, 0, 1, 0, 100}
	someEsi = api.Esi{1, 2, 3, 4, 5, 6, 7, 8, 9, 10}
	someMac = api.Mac{2, 0, 94, 16, 0, 255}
	six     = api.Ip{V6: true, B: [16]byte{32, 1, 13, 184, 15: 9}}
	four    = addr.Four(0x0a000001)
)

// floodBytes is the route that flood answers, in bytes.
var floodBytes = []byte{3, 17, 0, 1, 10, 0, 0, 1, 0, 100, 0, 0, 0, 7, 32, 10, 0, 0, 1}

func flood() api.Route {
	return api.Route{Kind: api.RFlood, Rd: someRd, Tag: 7, Ip: api.Prefix{Ip: four, Len: 32}}
}

// segmentBytes is the route that segment answers, in bytes.
var segmentBytes = []byte{1, 25, 0, 1, 10, 0, 0, 1, 0, 100, 1, 2, 3, 4, 5, 6, 7, 8, 9, 10, 255, 255, 255, 255, 0, 1, 0}

func segment() api.Route {
	return api.Route{Kind: api.RSegment, Rd: someRd, Esi: someEsi, Tag: api.MaxTag, Label: 256}
}

// cards answers n routes that are not one.
func cards(n int) []api.Route {
	l := make([]api.Route, n)
	for i := range l {
		l[i] = api.Route{Kind: api.RMac, Rd: someRd, Mac: api.Mac{2, 3: byte(i >> 16), 4: byte(i >> 8), 5: byte(i)}, Label: 100}
	}
	return l
}

// kinds answers a route of each size that routes have in bytes.
func kinds() []api.Route {
	whole4, whole6 := api.Prefix{Ip: four, Len: 32}, api.Prefix{Ip: six, Len: 128}
	net4, net6 := api.Prefix{Ip: addr.Four(0x0a000000), Len: 8}, api.Prefix{Ip: api.Ip{V6: true}, Len: 0}
	return []api.Route{
		flood(),
		segment(),
		{Kind: api.RMac, Rd: someRd, Esi: someEsi, Tag: 1, Mac: someMac, Label: api.MaxLabel},
		{Kind: api.RMac, Rd: someRd, Mac: someMac, Label2: 1},
		{Kind: api.RMac, Rd: someRd, Mac: someMac, Ip: whole4},
		{Kind: api.RMac, Rd: someRd, Mac: someMac, Ip: whole4, Label: 1, Label2: 2},
		{Kind: api.RMac, Rd: someRd, Mac: someMac, Ip: whole6, Label: 3},
		{Kind: api.RMac, Rd: someRd, Mac: someMac, Ip: whole6, Label: 3, Label2: 4},
		{Kind: api.RFlood, Rd: someRd, Ip: whole6},
		{Kind: api.REs, Rd: someRd, Esi: someEsi, Ip: whole4},
		{Kind: api.REs, Rd: someRd, Esi: someEsi, Ip: whole6},
		{Kind: api.RPrefix, Rd: someRd, Tag: 9, Ip: net4, Gw: four, Label: 5},
		{Kind: api.RPrefix, Rd: someRd, Esi: someEsi, Ip: net6, Gw: six, Label: 5},
	}
}

// wrongRoutes are not right, for one reason each.
func wrongRoutes() []api.Route {
	l := []api.Route{{}, {Kind: -1}, {Kind: 6, Rd: someRd}, {Kind: 257}, {Kind: math.MaxInt}, {Kind: api.RFlood}}
	for _, r := range kinds() {
		r.Label = api.MaxLabel + 1
		l = append(l, r)
	}
	return append(l,
		api.Route{Kind: api.RSegment, Mac: someMac},
		api.Route{Kind: api.RMac, Ip: api.Prefix{Ip: four, Len: 24}},
		api.Route{Kind: api.RMac, Label2: math.MaxUint32},
		api.Route{Kind: api.REs, Tag: 1, Ip: api.Prefix{Ip: four, Len: 32}},
		api.Route{Kind: api.RPrefix, Ip: api.Prefix{Ip: four, Len: 8}},
		api.Route{Kind: api.RPrefix, Ip: api.Prefix{Ip: addr.Four(0), Len: 8}, Gw: six},
	)
}

// whole says something in each field.
func whole() api.Update {
	return api.Update{
		Attrs: api.Attrs{
			Origin: 2, Path: []uint32{65001, 0x01020304}, HasMed: true, Med: 256, Pref: 100, Originator: 0x0a000007,
			Clusters: []uint32{7, 8}, Comms: []api.Comm{{0, 2, 253, 232, 0, 0, 0, 100}, {6, 0, 1, 0, 0, 0, 0, 5}},
			Pmsi: api.Pmsi{Kind: 6, Label: 100, Ip: four},
		},
		Next:    four,
		Reach:   []api.Route{flood(), segment()},
		Unreach: cards(2),
	}
}

func join(parts ...[]byte) []byte {
	var b []byte
	for _, p := range parts {
		b = append(b, p...)
	}
	return b
}

// alike holds two updates against each other by tests' own means.
func alike(a, b api.Update) bool {
	x, y := a.Attrs, b.Attrs
	return x.Origin == y.Origin && slices.Equal(x.Path, y.Path) && x.HasMed == y.HasMed && x.Med == y.Med && x.Pref == y.Pref &&
		x.Originator == y.Originator && slices.Equal(x.Clusters, y.Clusters) && slices.Equal(x.Comms, y.Comms) && x.Pmsi == y.Pmsi &&
		a.Next == b.Next && slices.Equal(a.Reach, b.Reach) && slices.Equal(a.Unreach, b.Unreach)
}

func sameFault(a, b api.Fault) bool {
	return a.Code == b.Code && a.Sub == b.Sub && bytes.Equal(a.Data, b.Data)
}

// P7.3: Same

// turned answers copies of whole, each of which differs in one thing.
func turned() []api.Update {
	turns := []func(u *api.Update){
		func(u *api.Update) { u.Attrs.Origin = 1 },
		func(u *api.Update) { u.Attrs.Path[1] = 5 },
		func(u *api.Update) { u.Attrs.Path = u.Attrs.Path[:1] },
		func(u *api.Update) { u.Attrs.HasMed = false },
		func(u *api.Update) { u.Attrs.Med = 257 },
		func(u *api.Update) { u.Attrs.Pref = 101 },
		func(u *api.Update) { u.Attrs.Originator = 0 },
		func(u *api.Update) { u.Attrs.Clusters[0] = 6 },
		func(u *api.Update) { u.Attrs.Clusters = nil },
		func(u *api.Update) { u.Attrs.Comms[1][7] = 6 },
		func(u *api.Update) { u.Attrs.Comms = append(u.Attrs.Comms, api.Comm{}) },
		func(u *api.Update) { u.Attrs.Pmsi.Kind = 7 },
		func(u *api.Update) { u.Attrs.Pmsi.Label = 101 },
		func(u *api.Update) { u.Attrs.Pmsi.Ip.B[15] = 1 },
		func(u *api.Update) { u.Attrs = api.Attrs{} },
		func(u *api.Update) { u.Next.V6 = true },
		func(u *api.Update) { u.Next.B[0] = 11 },
		func(u *api.Update) { u.Next.B[15] = 1 },
		func(u *api.Update) { u.Next = api.Ip{} },
		func(u *api.Update) { u.Reach = nil },
		func(u *api.Update) { u.Reach = u.Reach[:1] },
		func(u *api.Update) { u.Reach = append(u.Reach, flood()) },
		func(u *api.Update) { slices.Reverse(u.Reach) },
		func(u *api.Update) { u.Reach[0].Tag = 8 },
		func(u *api.Update) { u.Reach[1].Label = 255 },
		func(u *api.Update) { u.Reach[1].Rd[0] = 2 },
		func(u *api.Update) { u.Unreach = nil },
		func(u *api.Update) { u.Unreach = u.Unreach[:1] },
		func(u *api.Update) { u.Unreach = append(u.Unreach, api.Route{}) },
		func(u *api.Update) { slices.Reverse(u.Unreach) },
		func(u *api.Update) { u.Unreach[0].Mac[0] = 4 },
		func(u *api.Update) { u.Unreach[0].Ip.Len = 1 },
		func(u *api.Update) { u.Unreach[1].Label2 = 1 },
		func(u *api.Update) { u.Unreach[1].Gw.V6 = true },
		func(u *api.Update) { u.Reach, u.Unreach = u.Unreach, u.Reach },
		func(u *api.Update) { u.Reach, u.Unreach = nil, slices.Concat(u.Unreach, u.Reach) },
	}
	l := make([]api.Update, len(turns))
	for i, turn := range turns {
		l[i] = whole()
		turn(&l[i])
	}
	return l
}

func TestSame(t *testing.T) {
	if !Same(whole(), whole()) || !Same(api.Update{}, api.Update{}) {
		t.Error("the same is not")
	}
	for i, u := range turned() {
		if Same(u, whole()) || Same(whole(), u) {
			t.Errorf("row %d is told as the same", i)
		}
		if !Same(u, u) {
			t.Errorf("row %d is not as itself", i)
		}
	}
}

// Routes that are one by their keys are told apart all the same.
func TestSameIsFieldByField(t *testing.T) {
	a, b := whole(), whole()
	b.Reach[1].Label++
	b.Unreach[0].Esi[3]++
	if nlri.Key(a.Reach[1]) != nlri.Key(b.Reach[1]) || nlri.Key(a.Unreach[0]) != nlri.Key(b.Unreach[0]) {
		t.Fatal("they are not one")
	}
	if Same(a, b) {
		t.Error("told as the same")
	}
}

func TestSameNilAndEmpty(t *testing.T) {
	empty := api.Update{Attrs: api.Attrs{Path: []uint32{}, Clusters: []uint32{}, Comms: []api.Comm{}}, Reach: []api.Route{}, Unreach: make([]api.Route, 0, 3)}
	if !Same(api.Update{}, empty) || !Same(empty, api.Update{}) {
		t.Error("nil and empty are told apart")
	}
	for _, u := range []api.Update{{Reach: make([]api.Route, 1)}, {Unreach: make([]api.Route, 1)}} {
		if Same(u, empty) || Same(empty, u) {
			t.Error("one entry 0 is told as none")
		}
	}
}

// What isn't right is held against each other too.
func TestSameOfWhatIsNotRight(t *testing.T) {
	for _, r := range wrongRoutes() {
		u := api.Update{Attrs: api.Attrs{Origin: -7}, Next: api.Ip{B: [16]byte{15: 1}}, Reach: []api.Route{r}, Unreach: []api.Route{r, r}}
		v := Copy(u)
		if !Same(u, u) || !Same(u, v) || !alike(u, v) {
			t.Errorf("%v is not as itself", r)
		}
		v.Unreach[1].Kind++
		if Same(u, v) {
			t.Errorf("%v is told as another", r)
		}
	}
}

// P7.3: Copy

func TestCopy(t *testing.T) {
	long := api.Update{Reach: cards(5000), Unreach: cards(3000), Attrs: api.Attrs{Path: make([]uint32, 1000)}}
	for i, u := range append(turned(), whole(), api.Update{}, long) {
		if got := Copy(u); !alike(got, u) || !Same(got, u) {
			t.Errorf("row %d: %v", i, got)
		}
	}
	if got := Copy(api.Update{Reach: []api.Route{}, Unreach: []api.Route{}}); !alike(got, api.Update{}) {
		t.Errorf("empty lists: %v", got)
	}
}

// roomy gives each list room behind it.
func roomy(u api.Update) api.Update {
	u.Attrs.Path = append(make([]uint32, 0, 9), u.Attrs.Path...)
	u.Attrs.Clusters = append(make([]uint32, 0, 9), u.Attrs.Clusters...)
	u.Attrs.Comms = append(make([]api.Comm, 0, 9), u.Attrs.Comms...)
	u.Reach = append(make([]api.Route, 0, 9), u.Reach...)
	u.Unreach = append(make([]api.Route, 0, 9), u.Unreach...)
	return u
}

// spoil writes into all that the lists hold, and behind that.
func spoil(u api.Update) {
	all := func(l []api.Route) {
		l = l[:cap(l)]
		for i := range l {
			l[i] = api.Route{Kind: 99}
		}
	}
	all(u.Reach)
	all(u.Unreach)
	path, clusters, comms := u.Attrs.Path, u.Attrs.Clusters, u.Attrs.Comms
	path, clusters, comms = path[:cap(path)], clusters[:cap(clusters)], comms[:cap(comms)]
	for i := range path {
		path[i] = 99
	}
	for i := range clusters {
		clusters[i] = 99
	}
	for i := range comms {
		comms[i] = api.Comm{99}
	}
}

// isClean tells whether nothing was written behind the lists.
func isClean(u api.Update) bool {
	return u.Attrs.Path[:9][8] == 0 && u.Attrs.Clusters[:9][8] == 0 && u.Attrs.Comms[:9][8] == api.Comm{} &&
		u.Reach[:9][8] == api.Route{} && u.Unreach[:9][8] == api.Route{} && u.Reach[:9][2] == api.Route{} && u.Unreach[:9][2] == api.Route{}
}

// Rule 4
func TestCopyKeepsApart(t *testing.T) {
	u := roomy(whole())
	spoil(Copy(u))
	if !alike(u, whole()) || !isClean(u) {
		t.Errorf("the first one became %v", u)
	}
	c := Copy(u)
	spoil(u)
	if !alike(c, whole()) {
		t.Errorf("the copy became %v", c)
	}
	c = Copy(whole())
	kept := c.Unreach
	for i := range c.Reach[:cap(c.Reach)] {
		c.Reach[:cap(c.Reach)][i] = api.Route{}
	}
	if !slices.Equal(kept, cards(2)) {
		t.Error("two lists of the copy share memory")
	}
	empty := api.Update{Reach: make([]api.Route, 0, 3), Unreach: make([]api.Route, 0, 3)}
	spoil(Copy(empty))
	if empty.Reach[:1][0] != (api.Route{}) || empty.Unreach[:1][0] != (api.Route{}) {
		t.Error("an empty list's room is shared")
	}
}
