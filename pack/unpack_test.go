package pack

import (
	"bytes"
	"math/rand"
	"slices"
	"testing"

	"weft/api"
	"weft/attr"
	"weft/update"
)

func expectUnpack(t *testing.T, l [][]byte, class int, want ...api.Item) {
	t.Helper()
	got, c := Unpack(l)
	if c != class || !areSame(got, want) {
		t.Errorf("Unpack answers %v, class %d; want %v, class %d", got, c, want, class)
	}
}

func put(t *testing.T, u api.Update) []byte {
	t.Helper()
	b, e := update.Put(u)
	if e != api.OK {
		t.Fatal(u, e)
	}
	return b
}

// with answers the update's body, its attributes changed by change.
func with(t *testing.T, u api.Update, change func(l []api.Raw) []api.Raw) []byte {
	t.Helper()
	raws, e := attr.Split(put(t, u)[4:])
	if e != api.OK {
		t.Fatal(e)
	}
	b, e := attr.Join(change(raws))
	if e != api.OK {
		t.Fatal(e)
	}
	return append([]byte{0, 0, byte(len(b) >> 8), byte(len(b))}, b...)
}

// discarded answers a body that is read with Discard, all that it says being kept.
func discarded(t *testing.T, u api.Update) []byte {
	return with(t, u, func(l []api.Raw) []api.Raw {
		return append(l, api.Raw{Flags: 64, Kind: api.AAtomic, Value: []byte{1}})
	})
}

// withdrawn answers a body that is read with Withdraw.
func withdrawn(t *testing.T, u api.Update) []byte {
	return with(t, u, func(l []api.Raw) []api.Raw {
		l[attr.Place(l, api.AOrigin)].Value = []byte{3}
		return l
	})
}

// broken are bodies that are read with Reset.
func broken(t *testing.T) [][]byte {
	u := reached(many(2, card))
	u.Unreach = many(2, flood)
	twice := with(t, u, func(l []api.Raw) []api.Raw { return append(l, l[attr.Place(l, api.AReach)]) })
	whole := put(t, u)
	return [][]byte{nil, {}, {0, 0, 0}, {0, 0, 0, 5, 1, 2, 3, 4}, whole[:len(whole)-1], twice}
}

// P9.3

func TestUnpackNone(t *testing.T) {
	expectUnpack(t, nil, api.Fine)
	expectUnpack(t, [][]byte{}, api.Fine)
}

func TestUnpackEmptyBodies(t *testing.T) {
	empty := []byte{0, 0, 0, 0}
	expectUnpack(t, [][]byte{empty}, api.Fine)
	some := put(t, reached([]api.Route{card(1)}))
	expectUnpack(t, [][]byte{empty, some, empty}, api.Fine, there(card(1)))
	expectUnpack(t, [][]byte{{}}, api.Reset)
	expectUnpack(t, [][]byte{nil}, api.Reset)
}

func TestUnpackOneBody(t *testing.T) {
	for _, r := range kinds() {
		expectUnpack(t, [][]byte{put(t, api.Update{Unreach: []api.Route{r}})}, api.Fine, gone(r))
		expectUnpack(t, [][]byte{put(t, reached([]api.Route{r}))}, api.Fine, there(r))
		x := api.Item{Route: r, Attrs: wholeAttrs(), Next: six}
		expectUnpack(t, [][]byte{put(t, api.Update{Attrs: x.Attrs, Next: six, Reach: []api.Route{r}})}, api.Fine, x)
	}
}

// Of one body what is unreached comes first, though it stands last there; then the next body.
func TestUnpackBoth(t *testing.T) {
	a := reached([]api.Route{card(1), flood(1), card(1)})
	a.Unreach = []api.Route{flood(2), card(2), card(1)}
	b := api.Update{Attrs: wholeAttrs(), Next: six, Reach: []api.Route{card(3)}, Unreach: []api.Route{card(4)}}
	ofA := append(all(gone(card(0)), a.Unreach...), all(there(card(0)), a.Reach...)...)
	ofB := []api.Item{gone(card(4)), {Route: card(3), Attrs: wholeAttrs(), Next: six}}
	expectUnpack(t, [][]byte{put(t, a), put(t, b)}, api.Fine, slices.Concat(ofA, ofB)...)
	expectUnpack(t, [][]byte{put(t, b), put(t, a)}, api.Fine, slices.Concat(ofB, ofA)...)
	expectUnpack(t, [][]byte{put(t, a), put(t, a)}, api.Fine, slices.Concat(ofA, ofA)...)
}

func TestUnpackWorseClasses(t *testing.T) {
	a, b := reached(many(2, card)), reached(many(3, flood))
	b.Unreach = []api.Route{card(7)}
	ofA := all(there(card(0)), a.Reach...)
	ofB := append([]api.Item{gone(card(7))}, all(there(card(0)), b.Reach...)...)
	fine := put(t, a)
	expectUnpack(t, [][]byte{fine, discarded(t, b), fine}, api.Discard, slices.Concat(ofA, ofB, ofA)...)
	lost := append([]api.Item{gone(card(7))}, all(gone(card(0)), b.Reach...)...)
	expectUnpack(t, [][]byte{fine, withdrawn(t, b), fine}, api.Withdraw, slices.Concat(ofA, lost, ofA)...)
	expectUnpack(t, [][]byte{discarded(t, a), withdrawn(t, b)}, api.Withdraw, slices.Concat(ofA, lost)...)
	expectUnpack(t, [][]byte{withdrawn(t, b), discarded(t, a)}, api.Withdraw, slices.Concat(lost, ofA)...)
	expectUnpack(t, [][]byte{withdrawn(t, b)}, api.Withdraw, lost...)
	expectUnpack(t, [][]byte{discarded(t, b)}, api.Discard, ofB...)
}

func TestUnpackReset(t *testing.T) {
	a := reached(many(2, card))
	ofA := all(there(card(0)), a.Reach...)
	b := api.Update{Unreach: many(2, flood)}
	ofB := all(gone(card(0)), b.Unreach...)
	for _, bad := range broken(t) {
		expectUnpack(t, [][]byte{bad}, api.Reset)
		expectUnpack(t, [][]byte{bad, bad}, api.Reset)
		expectUnpack(t, [][]byte{put(t, a), bad, put(t, b)}, api.Reset, slices.Concat(ofA, ofB)...)
		expectUnpack(t, [][]byte{bad, put(t, a)}, api.Reset, ofA...)
		expectUnpack(t, [][]byte{put(t, b), bad}, api.Reset, ofB...)
		expectUnpack(t, [][]byte{bad, discarded(t, a), withdrawn(t, a)}, api.Reset, append(ofA, all(gone(card(0)), a.Reach...)...)...)
	}
}

// A second reading of the chapter over bodies that are spoilt.
func TestUnpackAnyBodies(t *testing.T) {
	r := rand.New(rand.NewSource(93))
	u := reached(kinds())
	u.Unreach = many(3, card)
	sound := [][]byte{put(t, u), put(t, api.Update{Attrs: wholeAttrs(), Next: six, Reach: many(2, flood)}), discarded(t, u), withdrawn(t, u), {0, 0, 0, 0}}
	seen := map[int]int{}
	for range 20000 {
		var l [][]byte
		for range r.Intn(4) {
			b := bytes.Clone(sound[r.Intn(len(sound))])
			if r.Intn(2) > 0 {
				b[r.Intn(len(b))] ^= 1 << r.Intn(8)
			}
			l = append(l, b[:len(b)-max(0, r.Intn(40)-30)%len(b)])
		}
		var want []api.Item
		worst := 0
		for _, b := range l {
			u, class, _ := update.Read(b)
			if class > worst {
				worst = class
			}
			want = append(want, all(gone(card(0)), u.Unreach...)...)
			want = append(want, all(api.Item{Attrs: u.Attrs, Next: u.Next}, u.Reach...)...)
		}
		expectUnpack(t, l, worst, want...)
		seen[worst]++
	}
	for class := api.Fine; class <= api.Reset; class++ {
		if seen[class] < 100 {
			t.Errorf("class %d was seen %d times", class, seen[class])
		}
	}
}

// P9.4

func TestUnpackWhatWasPacked(t *testing.T) {
	r := rand.New(rand.NewSource(94))
	for range 60 {
		l := anyItems(r)
		bodies, e := Pack(l)
		if e != api.OK {
			t.Fatal(e)
		}
		var want []api.Item
		for _, x := range slices.Concat(slowGroups(l)...) {
			if x.Gone {
				x.Attrs, x.Next = api.Attrs{}, api.Ip{}
			}
			want = append(want, x)
		}
		expectUnpack(t, bodies, api.Fine, want...)
	}
}

func TestNoTwoBodiesCouldBeOne(t *testing.T) {
	r := rand.New(rand.NewSource(95))
	pairs := 0
	for range 60 {
		bodies, e := Pack(anyItems(r))
		if e != api.OK {
			t.Fatal(e)
		}
		for i := 1; i < len(bodies); i++ {
			a, _ := Unpack(bodies[i-1 : i])
			b, _ := Unpack(bodies[i : i+1])
			if !Alike(a[0], b[0]) {
				continue
			}
			pairs++
			if _, e := update.Put(slowUpdate(append(a, b[0]))); e != api.ErrFull {
				t.Errorf("a body of %d bytes takes one route more: error %d", len(bodies[i-1]), e)
			}
		}
	}
	if pairs < 50 {
		t.Errorf("only %d pairs", pairs)
	}
}

// Rule 4

func TestUnpackKeepsApart(t *testing.T) {
	u := api.Update{Attrs: wholeAttrs(), Next: four, Reach: many(3, card), Unreach: many(1, flood)}
	sound := put(t, u)
	room := append(make([]byte, 0, len(sound)+20), sound...)
	l := append(make([][]byte, 0, 4), room, room)
	got, class := Unpack(l)
	want := append([]api.Item{gone(flood(0))}, all(api.Item{Attrs: wholeAttrs(), Next: four}, u.Reach...)...)
	want = append(want, want...)
	if class != api.Fine || !areSame(got, want) {
		t.Fatal(got, class)
	}
	if !bytes.Equal(room, sound) || !bytes.Equal(room[len(room):cap(room)], make([]byte, 20)) || l[:4][2] != nil {
		t.Error("the argument was written into")
	}
	for i := range room {
		room[i] = 0xee
	}
	if !areSame(got, want) {
		t.Error("the answer hangs on its argument")
	}
	for i := range got {
		if got[i].Gone {
			continue
		}
		spoil(got[i].Attrs)
		got[i] = want[i]
		if !areSame(got, want) {
			t.Fatalf("item %d reaches another one", i)
		}
	}
	if again, _ := Unpack([][]byte{sound, sound}); !areSame(again, want) {
		t.Error("the answer of one call reaches another one")
	}
}

// spoil writes into the lists of attributes, their spare room too.
func spoil(a api.Attrs) {
	for _, l := range [][]uint32{a.Path[:cap(a.Path)], a.Clusters[:cap(a.Clusters)]} {
		for i := range l {
			l[i] ^= 0x5a5a
		}
	}
	l := a.Comms[:cap(a.Comms)]
	for i := range l {
		l[i][0] ^= 0x5a
	}
}
