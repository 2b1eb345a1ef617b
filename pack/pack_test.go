package pack

import (
	"bytes"
	"math"
	"math/rand"
	"slices"
	"testing"

	"weft/addr"
	"weft/api"
	"weft/update"
)

var (
	someRd  = api.Rd{0, 1, 10, 0, 0, 1, 0, 100}
	someEsi = api.Esi{1, 2, 3, 4, 5, 6, 7, 8, 9, 10}
	someMac = api.Mac{2, 0, 94, 16, 0, 255}
	four    = addr.Four(0x0a000001)
	six     = api.Ip{V6: true, B: [16]byte{32, 1, 13, 184, 15: 9}}
	whole4  = api.Prefix{Ip: four, Len: 32}
	whole6  = api.Prefix{Ip: six, Len: 128}
)

// card answers a route of 35 bytes.
func card(n int) api.Route {
	return api.Route{Kind: api.RMac, Rd: someRd, Mac: api.Mac{2, 3: byte(n >> 16), 4: byte(n >> 8), 5: byte(n)}, Label: 100}
}

// flood answers a route of 19 bytes.
func flood(n int) api.Route {
	return api.Route{Kind: api.RFlood, Rd: someRd, Tag: uint32(n), Ip: whole4}
}

// kinds answers right routes of each kind and size.
func kinds() []api.Route {
	return []api.Route{
		{Kind: api.RSegment, Rd: someRd, Esi: someEsi, Tag: api.MaxTag, Label: 256},
		{Kind: api.RMac, Rd: someRd, Esi: someEsi, Tag: 1, Mac: someMac, Label: api.MaxLabel},
		{Kind: api.RMac, Rd: someRd, Mac: someMac, Ip: whole4, Label: 1, Label2: 2},
		{Kind: api.RMac, Rd: someRd, Mac: someMac, Ip: whole6, Label: 3, Label2: 4},
		{Kind: api.RFlood, Rd: someRd, Tag: 7, Ip: whole4},
		{Kind: api.RFlood, Rd: someRd, Ip: whole6},
		{Kind: api.REs, Rd: someRd, Esi: someEsi, Ip: whole4},
		{Kind: api.REs, Rd: someRd, Esi: someEsi, Ip: whole6},
		{Kind: api.RPrefix, Rd: someRd, Tag: 9, Ip: api.Prefix{Ip: addr.Four(0x0a000000), Len: 8}, Gw: four, Label: 5},
		{Kind: api.RPrefix, Rd: someRd, Esi: someEsi, Ip: api.Prefix{Ip: api.Ip{V6: true}}, Gw: six, Label: 5},
	}
}

// wholeAttrs say something in each field.
func wholeAttrs() api.Attrs {
	return api.Attrs{
		Origin: 2, Path: []uint32{65001, 0x01020304}, HasMed: true, Med: 256, Pref: 100, Originator: 0x0a000007,
		Clusters: []uint32{7, 8}, Comms: []api.Comm{{0, 2, 253, 232, 0, 0, 0, 100}, {6, 0, 1, 0, 0, 0, 0, 5}},
		Pmsi: api.Pmsi{Kind: 6, Label: 100, Ip: four},
	}
}

// otherAttrs differ from wholeAttrs in one thing each, and are right.
func otherAttrs() []api.Attrs {
	turns := []func(a *api.Attrs){
		func(a *api.Attrs) { a.Origin = 1 },
		func(a *api.Attrs) { a.Path[1] = 5 },
		func(a *api.Attrs) { a.Path = a.Path[:1] },
		func(a *api.Attrs) { a.Path = nil },
		func(a *api.Attrs) { slices.Reverse(a.Path) },
		func(a *api.Attrs) { a.HasMed, a.Med = false, 0 },
		func(a *api.Attrs) { a.Med = 257 },
		func(a *api.Attrs) { a.Pref = 101 },
		func(a *api.Attrs) { a.Originator = 0 },
		func(a *api.Attrs) { a.Clusters[0] = 6 },
		func(a *api.Attrs) { a.Clusters = nil },
		func(a *api.Attrs) { a.Path, a.Clusters = a.Clusters, a.Path },
		func(a *api.Attrs) { a.Comms[1][7] = 6 },
		func(a *api.Attrs) { a.Comms = append(a.Comms, api.Comm{}) },
		func(a *api.Attrs) { slices.Reverse(a.Comms) },
		func(a *api.Attrs) { a.Pmsi = api.Pmsi{} },
		func(a *api.Attrs) { a.Pmsi = api.Pmsi{Kind: 7, Label: 100} },
		func(a *api.Attrs) { a.Pmsi.Label = 101 },
		func(a *api.Attrs) { a.Pmsi.Ip = six },
		func(a *api.Attrs) { *a = api.Attrs{HasMed: true} },
		func(a *api.Attrs) { *a = api.Attrs{} },
	}
	var l []api.Attrs
	for _, turn := range turns {
		a := wholeAttrs()
		turn(&a)
		l = append(l, a)
	}
	return l
}

func sameAttrs(a, b api.Attrs) bool {
	return a.Origin == b.Origin && slices.Equal(a.Path, b.Path) && a.HasMed == b.HasMed && a.Med == b.Med && a.Pref == b.Pref &&
		a.Originator == b.Originator && slices.Equal(a.Clusters, b.Clusters) && slices.Equal(a.Comms, b.Comms) && a.Pmsi == b.Pmsi
}

// areSame holds items against each other field by field, by tests' own means.
func areSame(a, b []api.Item) bool {
	return slices.EqualFunc(a, b, func(x, y api.Item) bool {
		return x.Route == y.Route && x.Gone == y.Gone && x.Next == y.Next && sameAttrs(x.Attrs, y.Attrs)
	})
}

func there(r api.Route) api.Item {
	return api.Item{Route: r, Attrs: api.Attrs{Pref: 100}, Next: four}
}

func gone(r api.Route) api.Item {
	return api.Item{Route: r, Gone: true}
}

// all answers an item of each route.
func all(like api.Item, routes ...api.Route) []api.Item {
	var l []api.Item
	for _, r := range routes {
		like.Route = r
		l = append(l, like)
	}
	return l
}

// many answers n routes, each made of its number.
func many(n int, route func(int) api.Route) []api.Route {
	var l []api.Route
	for i := range n {
		l = append(l, route(i))
	}
	return l
}

// expectPack holds Pack's answer against updates that are put one by one.
func expectPack(t *testing.T, l []api.Item, want ...api.Update) {
	t.Helper()
	got, e := Pack(l)
	if e != api.OK || len(got) != len(want) {
		t.Errorf("Pack answers %d bodies, error %d; want %d", len(got), e, len(want))
		return
	}
	for i, u := range want {
		b, e := update.Put(u)
		if e != api.OK {
			t.Fatalf("update %d: %d", i, e)
		}
		if !bytes.Equal(got[i], b) {
			t.Errorf("body %d: % x; want % x", i, got[i], b)
		}
	}
}

func expectPackError(t *testing.T, l []api.Item, want api.Errno) {
	t.Helper()
	if got, e := Pack(l); e != want || len(got) != 0 {
		t.Errorf("Pack answers %d bodies, error %d; want %d", len(got), e, want)
	}
}

// P9.1

func expectAlike(t *testing.T, a, b api.Item, want bool) {
	t.Helper()
	if Alike(a, b) != want || Alike(b, a) != want {
		t.Errorf("Alike of %v and %v is not %v", a, b, want)
	}
}

func TestAlikeGone(t *testing.T) {
	a, b := gone(card(1)), gone(flood(2))
	expectAlike(t, a, b, true)
	for _, x := range append(otherAttrs(), wrongAttrs()...) {
		b.Attrs = x
		expectAlike(t, a, b, true)
	}
	b.Next = six
	expectAlike(t, a, b, true)
	a.Attrs, a.Next = wholeAttrs(), api.Ip{B: [16]byte{15: 1}}
	expectAlike(t, a, b, true)
}

func TestAlikeOneGone(t *testing.T) {
	for _, a := range []api.Item{{}, there(card(1)), {Attrs: wholeAttrs(), Next: six}} {
		b := a
		expectAlike(t, a, b, true)
		b.Gone = true
		expectAlike(t, a, b, false)
		expectAlike(t, a, gone(a.Route), false)
	}
}

func TestAlikeThere(t *testing.T) {
	a := api.Item{Route: card(1), Attrs: wholeAttrs(), Next: four}
	b := api.Item{Route: flood(2), Attrs: wholeAttrs(), Next: four}
	expectAlike(t, a, b, true)
	for _, x := range append(otherAttrs(), wrongAttrs()...) {
		b.Attrs = x
		expectAlike(t, a, b, false)
		expectAlike(t, b, b, true)
	}
	b.Attrs = wholeAttrs()
	for _, x := range []api.Ip{{}, six, addr.Four(0x0a000002), {V6: true, B: four.B}, {B: [16]byte{10, 0, 0, 1, 15: 1}}} {
		b.Next = x
		expectAlike(t, a, b, false)
		expectAlike(t, b, b, true)
	}
}

// What attr.Same calls the same may be written otherwise: a list that is nil or empty, or one with spare room.
func TestAlikeWrittenOtherwise(t *testing.T) {
	a, b := there(card(1)), there(card(2))
	b.Attrs.Path, b.Attrs.Clusters, b.Attrs.Comms = []uint32{}, make([]uint32, 0, 5), []api.Comm{}
	expectAlike(t, a, b, true)
	expectPack(t, []api.Item{a, b}, api.Update{Attrs: a.Attrs, Next: four, Reach: []api.Route{card(1), card(2)}})
	expectPack(t, []api.Item{b, a}, api.Update{Attrs: a.Attrs, Next: four, Reach: []api.Route{card(2), card(1)}})
	a.Attrs, b.Attrs = wholeAttrs(), wholeAttrs()
	b.Attrs.Path = append(make([]uint32, 0, 9), b.Attrs.Path...)
	expectAlike(t, a, b, true)
	expectPack(t, []api.Item{a, b}, api.Update{Attrs: a.Attrs, Next: four, Reach: []api.Route{card(1), card(2)}})
}

// P9.2: groups

func TestPackNone(t *testing.T) {
	expectPack(t, nil)
	expectPack(t, []api.Item{})
}

func TestPackOne(t *testing.T) {
	for _, r := range kinds() {
		l := []api.Route{r}
		expectPack(t, []api.Item{gone(r)}, api.Update{Unreach: l})
		expectPack(t, []api.Item{there(r)}, api.Update{Attrs: api.Attrs{Pref: 100}, Next: four, Reach: l})
		expectPack(t, []api.Item{{Route: r, Attrs: wholeAttrs(), Next: six}}, api.Update{Attrs: wholeAttrs(), Next: six, Reach: l})
		expectPack(t, []api.Item{{Route: r}}, api.Update{Reach: l})
	}
}

func TestPackTheExample(t *testing.T) {
	a, b, c, d := there(card(1)), there(card(2)), there(card(3)), gone(card(4))
	c.Attrs.Pref = 200
	expectPack(t, []api.Item{a, b, c, d},
		api.Update{Unreach: []api.Route{card(4)}},
		api.Update{Attrs: a.Attrs, Next: four, Reach: []api.Route{card(1), card(2)}},
		api.Update{Attrs: c.Attrs, Next: four, Reach: []api.Route{card(3)}})
	l := many(300, card)
	expectPack(t, all(a, l...), reached(l[:115]), reached(l[115:230]), reached(l[230:]))
}

// reached answers the update that tells of routes what there tells of each.
func reached(l []api.Route) api.Update {
	return api.Update{Attrs: api.Attrs{Pref: 100}, Next: four, Reach: l}
}

// Each order of two pairs, one that differs by its attributes and one by its next hop alone, and of two that are gone.
func TestPackEachOrder(t *testing.T) {
	base := there(card(0))
	byAttrs, byNext := base, base
	byAttrs.Attrs.Pref = 200
	byNext.Next = six
	likes := []api.Item{base, byAttrs, byNext, gone(card(0))}
	var walk func(l []api.Item)
	walk = func(l []api.Item) {
		expectPack(t, l, slowly(t, l)...)
		if len(l) == 5 {
			return
		}
		for _, x := range likes {
			x.Route = card(len(l))
			walk(append(slices.Clone(l), x))
		}
	}
	walk(nil)
}

func TestPackGoneFirst(t *testing.T) {
	l := append(all(there(card(0)), kinds()...), gone(flood(1)))
	expectPack(t, l, api.Update{Unreach: []api.Route{flood(1)}}, reached(kinds()))
	l = slices.Insert(l, 3, gone(card(2)))
	expectPack(t, l, api.Update{Unreach: []api.Route{card(2), flood(1)}}, reached(kinds()))
}

func TestPackGroupsByFirstItems(t *testing.T) {
	var l []api.Item
	var want []api.Update
	attrs := append(otherAttrs(), wholeAttrs())
	for i, a := range attrs {
		l = append(l, api.Item{Route: card(i), Attrs: a, Next: four})
	}
	for i, a := range slices.Backward(attrs) {
		l = append(l, api.Item{Route: flood(i), Attrs: a, Next: four})
	}
	for i, a := range attrs {
		want = append(want, api.Update{Attrs: a, Next: four, Reach: []api.Route{card(i), flood(i)}})
	}
	expectPack(t, l, want...)
}

func TestPackARouteTwice(t *testing.T) {
	twice := []api.Route{card(1), flood(1), card(1), card(1)}
	expectPack(t, all(there(card(1)), twice...), reached(twice))
	expectPack(t, all(gone(card(1)), twice...), api.Update{Unreach: twice})
	mixed := []api.Item{gone(card(1)), there(card(1)), gone(card(1)), there(card(1))}
	both := []api.Route{card(1), card(1)}
	expectPack(t, mixed, api.Update{Unreach: both}, reached(both))
}

// What is gone has no attributes and no next hop, whatever stands there.
func TestPackGoneWithWhatCouldNotBePut(t *testing.T) {
	l := all(gone(card(0)), many(8, card)...)
	for i, a := range wrongAttrs() {
		l[i%8].Attrs = a
		l[i%8].Next = api.Ip{B: [16]byte{15: 1}}
		expectPack(t, l, api.Update{Unreach: many(8, card)})
		expectPack(t, l[i%8:i%8+1], api.Update{Unreach: []api.Route{card(i % 8)}})
	}
}

// P9.2: bodies

func TestPackFullBodies(t *testing.T) {
	routes := many(400, card)
	for _, x := range []struct{ n, most int }{{1, 115}, {2, 115}, {114, 115}, {115, 115}, {116, 115}, {230, 115}, {231, 115}, {345, 115}, {346, 115}} {
		var want []api.Update
		for l := range slices.Chunk(routes[:x.n], x.most) {
			want = append(want, reached(l))
		}
		expectPack(t, all(there(card(0)), routes[:x.n]...), want...)
	}
	for _, n := range []int{1, 115, 116, 117, 232, 233, 348, 349} {
		var want []api.Update
		for l := range slices.Chunk(routes[:n], 116) {
			want = append(want, api.Update{Unreach: l})
		}
		expectPack(t, all(gone(card(0)), routes[:n]...), want...)
	}
}

// full answers routes that fill a body to its last byte, around those attributes or with none.
func full(isGone bool) []api.Route {
	if isGone {
		return many(214, flood)
	}
	return append(many(13, card), many(189, flood)...)
}

func TestPackToTheLastByte(t *testing.T) {
	for _, like := range []api.Item{gone(card(0)), there(card(0))} {
		l := full(like.Gone)
		for beyond := range 3 {
			got, e := Pack(all(like, slices.Concat(l, many(beyond, flood))...))
			want := 2
			if beyond == 0 {
				want = 1
			}
			if e != api.OK || len(got) != want || len(got[0]) != api.MaxBody {
				t.Errorf("gone %v, %d beyond: %d bodies, error %d", like.Gone, beyond, len(got), e)
			}
		}
	}
}

// A route that no longer fits ends the body, though a shorter one behind it would fit.
func TestPackKeepsTheOrder(t *testing.T) {
	l := slices.Concat(many(115, card), []api.Route{card(115), flood(0), flood(1)})
	expectPack(t, all(there(card(0)), l...), reached(l[:115]), reached(l[115:]))
	l = slices.Concat(many(115, card), []api.Route{flood(0), card(115)})
	expectPack(t, all(there(card(0)), l...), reached(l[:116]), reached(l[116:]))
	l = slices.Concat(full(true)[1:], []api.Route{card(1), flood(1), flood(2)})
	expectPack(t, all(gone(card(0)), l...), api.Update{Unreach: l[:213]}, api.Update{Unreach: l[213:]})
}

// Attributes that leave room for few routes: one, or two.
func TestPackFewRoutesABody(t *testing.T) {
	a := api.Attrs{Path: make([]uint32, 255), Clusters: make([]uint32, 255), Comms: make([]api.Comm, 246)}
	// 4 + 4 + 1026 + 7 + 1024 + 1972 are 4037 bytes; AReach has 12 around its routes, since few of them fit
	like := api.Item{Attrs: a, Next: four}
	var want []api.Update
	for i := range 5 {
		want = append(want, api.Update{Attrs: a, Next: four, Reach: []api.Route{flood(i)}})
	}
	expectPack(t, all(like, many(5, flood)...), want...)
	expectPackError(t, all(like, card(1)), api.ErrFull)
	like.Attrs.Comms = a.Comms[:244]
	expectPack(t, all(like, many(5, flood)...),
		api.Update{Attrs: like.Attrs, Next: four, Reach: []api.Route{flood(0), flood(1)}},
		api.Update{Attrs: like.Attrs, Next: four, Reach: []api.Route{flood(2), flood(3)}},
		api.Update{Attrs: like.Attrs, Next: four, Reach: []api.Route{flood(4)}})
}

// P9.2: errors

// wrongAttrs are not right, for one reason each.
func wrongAttrs() []api.Attrs {
	return []api.Attrs{
		{Origin: 3}, {Origin: -1}, {Origin: math.MinInt}, {Med: 1}, {Pmsi: api.Pmsi{Label: 1}}, {Pmsi: api.Pmsi{Kind: 256}},
		{Pmsi: api.Pmsi{Kind: 6, Label: api.MaxLabel + 1}}, {Pmsi: api.Pmsi{Kind: 7, Ip: four}}, {Pmsi: api.Pmsi{Kind: 6, Ip: api.Ip{B: [16]byte{4: 1}}}},
	}
}

func wrongRoutes() []api.Route {
	l := []api.Route{{}, {Kind: -1}, {Kind: 6, Rd: someRd}, {Kind: math.MaxInt}, {Kind: api.RFlood}, {Kind: api.RMac, Ip: api.Prefix{Ip: four, Len: 24}}}
	for _, r := range kinds() {
		r.Label = api.MaxLabel + 1
		l = append(l, r)
	}
	return l
}

// fullItems are items that alone go beyond a message.
func fullItems() []api.Item {
	attrs := []api.Attrs{
		{Path: make([]uint32, 256)},
		{Clusters: make([]uint32, 256)},
		{Comms: make([]api.Comm, 256)},
		{Path: make([]uint32, 255), Clusters: make([]uint32, 255), Comms: make([]api.Comm, 255)},
	}
	var l []api.Item
	for _, a := range attrs {
		l = append(l, api.Item{Route: flood(1), Attrs: a, Next: four})
	}
	return l
}

// argItems are items that alone aren't right.
func argItems() []api.Item {
	var l []api.Item
	for _, r := range wrongRoutes() {
		l = append(l, gone(r), there(r))
	}
	for _, a := range wrongAttrs() {
		l = append(l, api.Item{Route: card(1), Attrs: a, Next: four})
	}
	for i := 4; i < 16; i++ {
		next := four
		next.B[i] = 1
		l = append(l, api.Item{Route: card(1), Attrs: api.Attrs{Pref: 100}, Next: next})
	}
	return l
}

func TestPackAnItemThatIsWrong(t *testing.T) {
	for _, wrong := range argItems() {
		like := wrong
		if !Alike(like, there(card(0))) && !like.Gone {
			like = there(card(0))
		}
		for at := range 4 {
			expectPackError(t, slices.Insert(all(like, many(3, card)...), at, wrong), api.ErrArg)
		}
		expectPackError(t, append(all(like, many(300, card)...), wrong), api.ErrArg)
		expectPackError(t, []api.Item{wrong}, api.ErrArg)
	}
	for _, wrong := range fullItems() {
		for at := range 4 {
			expectPackError(t, slices.Insert(all(there(card(0)), many(3, card)...), at, wrong), api.ErrFull)
		}
		expectPackError(t, all(wrong, many(3, card)...), api.ErrFull)
		expectPackError(t, []api.Item{wrong}, api.ErrFull)
	}
}

// In a group whose attributes leave little room a later and longer route alone is too much.
func TestPackAnItemTooLongForItsGroup(t *testing.T) {
	like := api.Item{Attrs: api.Attrs{Path: make([]uint32, 255), Clusters: make([]uint32, 255), Comms: make([]api.Comm, 246)}, Next: four}
	for at := range 4 {
		expectPackError(t, all(like, slices.Insert(many(3, flood), at, card(1))...), api.ErrFull)
	}
	l := all(like, many(3, flood)...)
	expectPackError(t, append(l, api.Item{Route: card(1), Attrs: like.Attrs, Next: four}), api.ErrFull)
	if got, e := Pack(append(l, there(card(1)), gone(card(2)))); e != api.OK || len(got) != 5 {
		t.Errorf("%d bodies, error %d", len(got), e)
	}
}

// The first item of the list that has an error answers, though the group of another one stands ahead.
func TestPackTheFirstErrorOfTheList(t *testing.T) {
	rest := all(there(card(0)), many(3, card)...)
	for _, full := range fullItems() {
		for _, arg := range argItems() {
			expectPackError(t, slices.Concat(rest, []api.Item{full}, rest, []api.Item{arg}), api.ErrFull)
			expectPackError(t, slices.Concat(rest, []api.Item{arg}, rest, []api.Item{full}), api.ErrArg)
			expectPackError(t, []api.Item{full, arg, full}, api.ErrFull)
			expectPackError(t, []api.Item{arg, full, arg}, api.ErrArg)
		}
	}
	// the group of what is gone stands first, but its item stands last
	expectPackError(t, []api.Item{gone(card(1)), there(card(1)), fullItems()[0], gone(api.Route{})}, api.ErrFull)
	// the group of the wrong item begins first, but its wrong item stands last
	expectPackError(t, []api.Item{there(card(1)), fullItems()[0], there(api.Route{})}, api.ErrFull)
}

// What fits alone needn't fit with others: of that no error is told.
func TestPackManyItems(t *testing.T) {
	got, e := Pack(append(all(there(card(0)), many(20000, card)...), all(gone(card(0)), many(20000, card)...)...))
	if e != api.OK || len(got) != 174+173 { // 20000 of 115 a body, and of 116
		t.Errorf("%d bodies, error %d", len(got), e)
	}
}

func TestPackManyGroups(t *testing.T) {
	var l []api.Item
	for i := range 40000 {
		l = append(l, api.Item{Route: card(i), Attrs: api.Attrs{Pref: uint32(i / 2)}, Next: four})
	}
	got, e := Pack(l)
	if e != api.OK || len(got) != 20000 {
		t.Errorf("%d bodies, error %d", len(got), e)
	}
	if back, class := Unpack(got); class != api.Fine || !areSame(back, l) {
		t.Errorf("%d items, class %d", len(back), class)
	}
}

// P9.2, P9.4: a second reading of the chapter

// slowly answers the updates that Pack's bodies are put of: groups by looks at all others, bodies route by route.
func slowly(t *testing.T, l []api.Item) []api.Update {
	t.Helper()
	var out []api.Update
	for _, g := range slowGroups(l) {
		for at := 0; at < len(g); {
			u := slowUpdate(g[at : at+1])
			n := 1
			for at+n < len(g) {
				more := slowUpdate(g[at : at+n+1])
				if _, e := update.Put(more); e != api.OK {
					break
				}
				u = more
				n++
			}
			out = append(out, u)
			at += n
		}
	}
	return out
}

func slowUpdate(l []api.Item) api.Update {
	var u api.Update
	for _, x := range l {
		if x.Gone {
			u.Unreach = append(u.Unreach, x.Route)
		} else {
			u.Attrs, u.Next, u.Reach = x.Attrs, x.Next, append(u.Reach, x.Route)
		}
	}
	return u
}

func slowGroups(l []api.Item) [][]api.Item {
	var gone []api.Item
	var out [][]api.Item
	for _, x := range l {
		if x.Gone {
			gone = append(gone, x)
			continue
		}
		at := slices.IndexFunc(out, func(g []api.Item) bool { return g[0].Next == x.Next && sameAttrs(g[0].Attrs, x.Attrs) })
		if at < 0 {
			out = append(out, []api.Item{x})
		} else {
			out[at] = append(out[at], x)
		}
	}
	if len(gone) > 0 {
		out = slices.Insert(out, 0, gone)
	}
	return out
}

// anyItem answers a right item of few groups.
func anyItem(r *rand.Rand) api.Item {
	routes := append(kinds(), card(r.Intn(1000)), card(r.Intn(1000)), flood(r.Intn(1000)))
	x := api.Item{Route: routes[r.Intn(len(routes))], Gone: r.Intn(4) == 0}
	attrs := append(otherAttrs()[:r.Intn(20)+1], wholeAttrs(), api.Attrs{Path: make([]uint32, 255), Comms: make([]api.Comm, 230)})
	x.Attrs = attrs[r.Intn(len(attrs))]
	x.Next = []api.Ip{four, six, {}, {V6: true}}[r.Intn(4)]
	return x
}

func anyItems(r *rand.Rand) []api.Item {
	some := make([]api.Item, 1+r.Intn(6)) // so that there are groups of several items
	for i := range some {
		some[i] = anyItem(r)
	}
	var l []api.Item
	for range r.Intn(500) {
		x := some[r.Intn(len(some))]
		x.Route = anyItem(r).Route
		l = append(l, x)
	}
	return l
}

func TestPackAnyItems(t *testing.T) {
	r := rand.New(rand.NewSource(9))
	for range 60 {
		l := anyItems(r)
		expectPack(t, l, slowly(t, l)...)
	}
}

// Rule 4

// roomy answers items whose lists have spare room.
func roomy() []api.Item {
	l := make([]api.Item, 0, 9)
	for i := range 6 {
		a := wholeAttrs()
		a.Path = append(make([]uint32, 0, 9), a.Path...)
		a.Clusters = append(make([]uint32, 0, 9), a.Clusters...)
		a.Comms = append(make([]api.Comm, 0, 9), a.Comms...)
		a.Pref = uint32(i % 2)
		l = append(l, api.Item{Route: card(i), Attrs: a, Next: four, Gone: i > 3})
	}
	return l
}

func isClean(l []api.Item) bool {
	is := len(l) == 6 && areSame(l[6:9], make([]api.Item, 3))
	for _, x := range l {
		a := x.Attrs
		is = is && !slices.ContainsFunc(a.Path[2:9], func(n uint32) bool { return n != 0 }) &&
			!slices.ContainsFunc(a.Clusters[2:9], func(n uint32) bool { return n != 0 }) &&
			!slices.ContainsFunc(a.Comms[2:9], func(c api.Comm) bool { return c != api.Comm{} })
	}
	return is && areSame(l, roomy())
}

func TestPackKeepsApart(t *testing.T) {
	l := roomy()
	got, e := Pack(l)
	if e != api.OK || len(got) != 3 || !isClean(l) {
		t.Fatalf("%d bodies, error %d; the argument became %v", len(got), e, l)
	}
	var want [][]byte
	for _, b := range got {
		want = append(want, bytes.Clone(b))
	}
	for i := range l {
		l[i].Attrs.Path[0], l[i].Attrs.Comms[0], l[i].Route = 9, api.Comm{}, api.Route{}
	}
	for i, b := range got {
		if !bytes.Equal(b, want[i]) {
			t.Errorf("body %d hangs on its argument", i)
		}
		b = b[:cap(b)]
		for at := range b {
			b[at] ^= 0x5a
		}
		for k := i + 1; k < len(got); k++ {
			if !bytes.Equal(got[k], want[k]) {
				t.Errorf("body %d reaches body %d", i, k)
			}
		}
	}
	l = roomy()
	again, e := Pack(l)
	if e != api.OK || !isClean(l) || !slices.EqualFunc(again, want, bytes.Equal) {
		t.Errorf("a later answer is % x, %d", again, e)
	}
}
