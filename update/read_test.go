package update

import (
	"bytes"
	"math/rand"
	"slices"
	"testing"

	"weft/addr"
	"weft/api"
	"weft/attr"
	"weft/nlri"
)

func expectRead(t *testing.T, b []byte, want api.Update, class int) {
	t.Helper()
	got, c, f := Read(b)
	if c != class || !alike(got, want) || !sameFault(f, api.Fault{}) {
		t.Errorf("Read(% x) = %+v, %d, %v; want %+v, %d", b, got, c, f, want, class)
	}
}

func expectReset(t *testing.T, b []byte, sub int, data ...byte) {
	t.Helper()
	got, c, f := Read(b)
	if c != api.Reset || !alike(got, api.Update{}) || !sameFault(f, api.Fault{Code: 3, Sub: sub, Data: data}) {
		t.Errorf("Read(% x) = %+v, %d, %v; want Reset, 3, %d, % x", b, got, c, f, sub, data)
	}
}

// floods is an update of which the routes are reached over four, with the attributes of plain(100).
func floods(l ...api.Route) api.Update {
	return api.Update{Attrs: api.Attrs{Pref: 100}, Next: four, Reach: l}
}

// P7.2: the lengths

func TestReadFewBytes(t *testing.T) {
	for n := range 4 {
		for _, filling := range []byte{0, 1, 255} {
			expectReset(t, bytes.Repeat([]byte{filling}, n), 1)
		}
	}
	expectReset(t, nil, 1)
	expectRead(t, []byte{0, 0, 0, 0}, api.Update{}, api.Fine)
}

func TestReadLengthsBeyond(t *testing.T) {
	attrs := []byte{64, 1, 1, 0}
	rows := [][]byte{
		{0, 1, 0, 0}, {0, 2, 0, 0}, {0, 3, 0, 0}, {255, 255, 0, 0}, {1, 0, 0, 0}, {0, 1, 9, 0},
		{0, 1, 9, 0, 1}, {0, 0, 0, 1}, {0, 0, 1, 0}, {0, 0, 255, 255}, {0, 2, 9, 9, 0, 1}, {0, 2, 9, 9, 0}, {0, 2, 9, 9}, {0, 2, 9, 9, 9},
		join([]byte{0, 0, 0, 5}, attrs), join([]byte{0, 0, 0, 6}, attrs), join([]byte{0, 0, 1, 4}, attrs), join([]byte{0, 0, 255, 255}, attrs),
		join([]byte{0, 3, 1, 2, 3, 0, 5}, attrs), join([]byte{0, 9, 1, 2, 3, 0, 4}, attrs), join([]byte{0, 8, 1, 2, 3, 0, 4}, attrs),
	}
	for _, b := range rows {
		expectReset(t, b, 1)
	}
	expectRead(t, join([]byte{0, 3, 1, 2, 3, 0, 4}, attrs), api.Update{}, api.Fine)
}

// Each of both lengths at the bytes that are there, and one beyond.
func TestReadLengthsAtTheBound(t *testing.T) {
	for _, n := range []int{0, 1, 2, 255, 256, 257, 4073, 65535} {
		elder := make([]byte, n)
		high, low := byte(n>>8), byte(n)
		expectRead(t, join([]byte{high, low}, elder, []byte{0, 0}), api.Update{}, api.Fine)
		expectReset(t, join([]byte{high, low}, elder, []byte{0}), 1)
		expectReset(t, join([]byte{high, low}, elder), 1)
		expectReset(t, join([]byte{high, low}, elder, []byte{0, 1}), 1)
		if n < 4 {
			continue
		}
		attribute := join([]byte{144, 99, byte((n - 4) >> 8), byte(n - 4)}, elder[4:])
		expectRead(t, join([]byte{0, 0, high, low}, attribute), api.Update{}, api.Fine)
		expectReset(t, join([]byte{0, 0, high, low}, attribute[:n-1]), 1)
	}
}

func TestReadElderRoutes(t *testing.T) {
	attrs := join(plain(100), flagged(14, ours, next4, floodBytes))
	for _, ahead := range [][]byte{nil, {0}, {24, 10, 0, 0}, {255, 255, 255}, bytes.Repeat([]byte{7}, 1000)} {
		for _, behind := range [][]byte{nil, {0}, {24, 10, 0, 0}, floodBytes, bytes.Repeat([]byte{255}, 1000)} {
			b := join([]byte{byte(len(ahead) >> 8), byte(len(ahead))}, ahead, []byte{0, byte(len(attrs))}, attrs, behind)
			expectRead(t, b, floods(flood()), api.Fine)
		}
	}
}

// P7.2: attributes that are refused

func TestReadAttributesThatSplitRefuses(t *testing.T) {
	right := join(plain(100), flagged(14, ours, next4, floodBytes))
	for _, tail := range [][]byte{{64}, {64, 1}, {64, 1, 1}, {64, 6, 1}, {144, 99, 0}, {144, 99, 1, 0}, {192, 99, 255}} {
		expectReset(t, body(right, tail), 1)
		expectReset(t, body(tail), 1)
		expectReset(t, join(body(right, tail), make([]byte, 300)), 1)
	}
	for n := 1; n < len(right); n++ {
		cut := body(right[:n])
		if l, e := attr.Split(right[:n]); e != api.OK {
			expectReset(t, cut, 1)
		} else if _, class, _ := Read(cut); class != api.Fine {
			t.Errorf("%v: %d", l, class)
		}
	}
}

func TestReadAttributesThatReset(t *testing.T) {
	reach, unreach := flagged(14, ours, next4, floodBytes), flagged(15, ours, segmentBytes)
	empty := []byte{128, 15, 3, 0, 25, 70}
	expectReset(t, body(plain(0), reach, reach), 1)
	expectReset(t, body(plain(0), unreach, reach, unreach), 1)
	expectReset(t, body(empty, empty), 1)
	expectReset(t, body(plain(0), reach, []byte{64, 99, 2, 8, 9}), 2, 64, 99, 2, 8, 9)
	expectReset(t, body([]byte{80, 99, 0, 1, 7}), 2, 80, 99, 0, 1, 7)
	expectReset(t, body(unreach, []byte{0, 0, 0}), 2, 0, 0, 0)
	for _, flags := range []byte{0, 64, 192} {
		expectReset(t, body([]byte{flags, 15, 3, 0, 25, 70}), 4, flags, 15, 3, 0, 25, 70)
		expectReset(t, body([]byte{flags, 14, 1, 9}), 4, flags, 14, 1, 9)
	}
}

// P7.2: AUnreach

func TestReadShortUnreach(t *testing.T) {
	for n := range 3 {
		for _, v := range [][]byte{ours, {0, 1, 1}, {0, 25, 71}} {
			short := flagged(15, v[:n])
			expectReset(t, body(short), 9, short...)
			expectReset(t, body(plain(0), flagged(14, ours, next4, floodBytes), short), 9, short...)
			long := join([]byte{144, 15, 0, byte(n)}, v[:n])
			expectReset(t, body(long), 9, long...)
		}
	}
	expectRead(t, body(flagged(15, ours)), api.Update{}, api.Fine)
}

func TestReadUnreachOfRoutesThatAreRefused(t *testing.T) {
	for _, tail := range [][]byte{{3}, {3, 17}, {3, 1}, {9, 1}, {0}, floodBytes[:18]} {
		for _, ahead := range [][]byte{nil, floodBytes, {3, 1, 7}, {9, 1, 7}} {
			refused := flagged(15, ours, ahead, tail)
			expectReset(t, body(refused), 9, refused...)
			expectReset(t, body(plain(9), flagged(14, ours, next4, segmentBytes), refused), 9, refused...)
		}
	}
	big := flagged(15, ours, bytes.Repeat(floodBytes, 20), []byte{3})
	if big[0] != 144 {
		t.Fatal("too short")
	}
	expectReset(t, body(big), 9, big...)
}

var otherFamilies = [][]byte{{0, 0, 0}, {0, 1, 1}, {0, 2, 1}, {0, 25, 65}, {0, 25, 0}, {0, 25, 69}, {0, 25, 71}, {0, 24, 70}, {0, 26, 70}, {1, 25, 70}, {25, 0, 70}, {25, 70, 0}, {70, 0, 25}, {255, 255, 255}}

func TestReadUnreachOfAnotherFamily(t *testing.T) {
	for _, f := range otherFamilies {
		for _, tail := range [][]byte{nil, floodBytes, {3}, {3, 1, 7}, bytes.Repeat([]byte{255}, 300)} {
			expectRead(t, body(flagged(15, f, tail)), api.Update{}, api.Fine)
			expectRead(t, body(plain(100), flagged(14, ours, next4, floodBytes), flagged(15, f, tail)), floods(flood()), api.Fine)
		}
	}
}

func TestReadUnreach(t *testing.T) {
	expectRead(t, body(flagged(15, ours, floodBytes)), api.Update{Unreach: []api.Route{flood()}}, api.Fine)
	expectRead(t, body(plain(7), flagged(15, ours, segmentBytes, floodBytes, segmentBytes)), api.Update{Unreach: []api.Route{segment(), flood(), segment()}}, api.Fine)
	expectRead(t, body(plain(7), flagged(15, ours)), api.Update{}, api.Fine)
	expectRead(t, body([]byte{160, 15, 22}, ours, floodBytes), api.Update{Unreach: []api.Route{flood()}}, api.Fine)
}

// P7.2: AReach

func TestReadShortReach(t *testing.T) {
	for n := range 3 {
		for _, v := range [][]byte{ours, {0, 1, 1}, {0, 25, 71}} {
			short := flagged(14, v[:n])
			expectReset(t, body(short), 9, short...)
			expectReset(t, body(flagged(15, ours, floodBytes), plain(0), short), 9, short...)
			long := join([]byte{144, 14, 0, byte(n)}, v[:n])
			expectReset(t, body(long), 9, long...)
		}
	}
	three := flagged(14, ours)
	expectReset(t, body(plain(0), three), 9, three...)
}

func TestReadReachOfAnotherFamily(t *testing.T) {
	for _, f := range otherFamilies {
		for _, tail := range [][]byte{nil, {4}, {5}, join(next4, floodBytes), join(next4, []byte{3}), bytes.Repeat([]byte{255}, 300)} {
			expectRead(t, body(flagged(14, f, tail)), api.Update{}, api.Fine)
			expectRead(t, body(plain(100), flagged(14, f, tail), flagged(15, ours, floodBytes)), api.Update{Unreach: []api.Route{flood()}}, api.Fine)
		}
	}
}

func TestReadNextHopsLength(t *testing.T) {
	for n := range 256 {
		reach := flagged(14, ours, []byte{byte(n)}, make([]byte, 17), bytes.Repeat([]byte{0}, 300))
		switch n {
		case 4, 16: // behind it there are routes of a kind that isn't known
			if _, class, _ := Read(body(plain(0), reach)); class != api.Fine {
				t.Errorf("length %d: %d", n, class)
			}
		default:
			expectReset(t, body(plain(0), reach), 9, reach...)
		}
		alone := flagged(14, ours, []byte{byte(n)})
		expectReset(t, body(plain(0), alone), 9, alone...)
	}
}

func TestReadReachThatEndsTooEarly(t *testing.T) {
	for _, next := range [][]byte{next4, next6} {
		for n := range len(next) {
			cut := flagged(14, ours, next[:n])
			expectReset(t, body(plain(0), cut), 9, cut...)
			expectReset(t, body(cut, plain(0), flagged(15, ours, floodBytes)), 9, cut...)
		}
		expectRead(t, body(plain(0), flagged(14, ours, next)), api.Update{}, api.Fine)
	}
}

func TestReadReachOfRoutesThatAreRefused(t *testing.T) {
	for _, next := range [][]byte{next4, next6} {
		for _, tail := range [][]byte{{3}, {3, 17}, {3, 1}, {9, 1}, {0}, floodBytes[:18]} {
			for _, ahead := range [][]byte{nil, floodBytes, {3, 1, 7}, {9, 1, 7}, bytes.Repeat(floodBytes, 20)} {
				refused := flagged(14, ours, next, ahead, tail)
				expectReset(t, body(plain(0), refused), 9, refused...)
				expectReset(t, body(refused), 9, refused...)
			}
		}
	}
}

func TestReadReach(t *testing.T) {
	expectRead(t, body(plain(100), flagged(14, ours, next4, floodBytes)), floods(flood()), api.Fine)
	expectRead(t, body(flagged(14, ours, next4, floodBytes, segmentBytes), plain(100)), floods(flood(), segment()), api.Fine)
	u := floods(segment())
	u.Next = six
	expectRead(t, body(plain(100), flagged(14, ours, next6, segmentBytes)), u, api.Fine)
	u.Unreach = []api.Route{flood()}
	expectRead(t, body(flagged(15, ours, floodBytes), plain(100), flagged(14, ours, next6, segmentBytes)), u, api.Fine)
	expectRead(t, body([]byte{176, 14, 0, 28}, ours, next4, floodBytes, plain(100)), floods(flood()), api.Fine)
}

// The chapter refuses no byte behind the next hop.
func TestReadTheByteBehindTheNextHop(t *testing.T) {
	for n := range 256 {
		next := bytes.Clone(next4)
		next[5] = byte(n)
		expectRead(t, body(plain(100), flagged(14, ours, next, floodBytes)), floods(flood()), api.Fine)
	}
}

// A next hop and attributes of nothing aren't told.
func TestReadReachWithoutRoutes(t *testing.T) {
	gone := api.Update{Unreach: []api.Route{segment()}}
	for _, next := range [][]byte{next4, next6} {
		for _, routes := range [][]byte{nil, {9, 1, 7}} {
			reach := flagged(14, ours, next, routes)
			expectRead(t, body(plain(100), reach), api.Update{}, api.Fine)
			expectRead(t, body(reach), api.Update{}, api.Fine)
			expectRead(t, body(plain(100), reach, flagged(15, ours, segmentBytes)), gone, api.Fine)
			expectRead(t, body(reach, flagged(15, ours, segmentBytes)), gone, api.Fine)
		}
		wrong := flagged(14, ours, next, []byte{3, 1, 7})
		expectRead(t, body(plain(100), wrong, flagged(15, ours, segmentBytes)), gone, api.Discard)
		expectRead(t, body(wrong), api.Update{}, api.Discard)
	}
}

// P7.2: which fault comes first

func TestReadTheFirstFault(t *testing.T) {
	shortUnreach, shortReach := []byte{128, 15, 2, 0, 25}, []byte{128, 14, 2, 0, 25}
	unknown := []byte{64, 99, 0}
	origin := []byte{64, 1, 1, 3}
	expectReset(t, body(unknown, shortUnreach, []byte{64}), 1)
	expectReset(t, join([]byte{0, 0, 0, 9}, unknown, shortUnreach), 1)
	expectReset(t, body(shortUnreach, shortReach, unknown), 2, unknown...)
	expectReset(t, body(shortReach, unknown, shortUnreach), 2, unknown...)
	expectReset(t, body(shortReach, shortUnreach, shortReach), 1)
	expectReset(t, body(shortUnreach, shortUnreach, unknown), 1)
	expectReset(t, body(shortUnreach, unknown, shortUnreach), 2, unknown...)
	expectReset(t, body(shortReach, shortUnreach), 9, shortUnreach...)
	expectReset(t, body(shortUnreach, shortReach), 9, shortUnreach...)
	expectReset(t, body(origin, shortReach), 9, shortReach...)
	expectReset(t, body(origin, flagged(14, ours, next4, floodBytes), shortUnreach), 9, shortUnreach...)
	badRoutes := flagged(15, ours, []byte{3})
	expectReset(t, body(shortReach, badRoutes), 9, badRoutes...)
	expectReset(t, body(shortReach, flagged(15, ours, []byte{3, 1, 7})), 9, shortReach...)
	expectReset(t, body(shortReach, flagged(15, []byte{0, 1, 1, 3})), 9, shortReach...)
	badReach := flagged(14, ours, []byte{5}, floodBytes, []byte{3})
	expectReset(t, body(badReach, flagged(15, ours, floodBytes)), 9, badReach...)
}

// P7.2: classes

func TestReadRoutesThatArePassedOver(t *testing.T) {
	wrong, other := []byte{3, 1, 7}, []byte{9, 1, 7}
	for _, passed := range [][]byte{wrong, join(wrong, wrong), join(other, wrong), {1, 0}, {5, 2, 1, 1}} {
		u := floods(flood(), segment())
		expectRead(t, body(plain(100), flagged(14, ours, next4, floodBytes, passed, segmentBytes)), u, api.Discard)
		expectRead(t, body(plain(100), flagged(14, ours, next4, floodBytes, segmentBytes), flagged(15, ours, passed)), u, api.Discard)
		u.Unreach = []api.Route{segment()}
		expectRead(t, body(plain(100), flagged(14, ours, next4, passed, floodBytes, segmentBytes), flagged(15, ours, segmentBytes, passed)), u, api.Discard)
		expectRead(t, body(flagged(15, ours, passed, floodBytes)), api.Update{Unreach: []api.Route{flood()}}, api.Discard)
	}
	for kind := range 256 {
		if kind >= 1 && kind <= 5 {
			continue
		}
		passed := []byte{byte(kind), 1, 7}
		expectRead(t, body(plain(100), flagged(14, ours, next4, passed, floodBytes)), floods(flood()), api.Fine)
		expectRead(t, body(flagged(15, ours, floodBytes, passed)), api.Update{Unreach: []api.Route{flood()}}, api.Fine)
	}
}

func TestReadWhereAnAttributeStandsNowhere(t *testing.T) {
	three := [][]byte{{64, 1, 1, 0}, {64, 2, 0}, {64, 5, 4, 0, 0, 0, 100}}
	reach, unreach := flagged(14, ours, next4, floodBytes), flagged(15, ours, segmentBytes)
	for set := range 8 {
		var attrs []byte
		for i, a := range three {
			if set>>i&1 == 1 {
				attrs = append(attrs, a...)
			}
		}
		if set == 7 {
			expectRead(t, body(attrs, reach), floods(flood()), api.Fine)
			continue
		}
		expectRead(t, body(attrs, reach), api.Update{Unreach: []api.Route{flood()}}, api.Withdraw)
		expectRead(t, body(attrs, reach, unreach), api.Update{Unreach: []api.Route{segment(), flood()}}, api.Withdraw)
		expectRead(t, body(attrs, unreach), api.Update{Unreach: []api.Route{segment()}}, api.Fine)
		expectRead(t, body(attrs, flagged(14, ours, next4, []byte{3, 1, 7}), unreach), api.Update{Unreach: []api.Route{segment()}}, api.Discard)
		expectRead(t, body(attrs), api.Update{}, api.Fine)
	}
}

// One that isn't right stands there, but routes can't be reached with it.
func TestReadAttributesThatWithdraw(t *testing.T) {
	reach, unreach := flagged(14, ours, next4, floodBytes, segmentBytes), flagged(15, ours, segmentBytes)
	for _, wrong := range [][]byte{
		{64, 1, 1, 3}, {192, 1, 1, 0}, {64, 2, 1, 2}, {64, 5, 3, 0, 0, 0}, {128, 4, 0}, {128, 9, 4, 0, 0, 0, 0}, {128, 10, 0}, {192, 16, 7, 0, 0, 0, 0, 0, 0, 0}, {192, 22, 0}, {64, 3, 1, 1},
	} {
		attrs := plain(100)
		if kind := wrong[1]; kind == 1 || kind == 2 || kind == 5 {
			l, _ := attr.Split(attrs)
			at := attr.Place(l, int(kind))
			attrs, _ = attr.Join(slices.Delete(l, at, at+1))
		}
		expectRead(t, body(attrs, wrong, reach), api.Update{Unreach: []api.Route{flood(), segment()}}, api.Withdraw)
		expectRead(t, body(reach, attrs, wrong, unreach), api.Update{Unreach: []api.Route{segment(), flood(), segment()}}, api.Withdraw)
		expectRead(t, body(wrong, unreach), api.Update{Unreach: []api.Route{segment()}}, api.Withdraw)
		expectRead(t, body(wrong), api.Update{}, api.Withdraw)
	}
}

// The order: those that are unreached, then those that are reached, wherever the attributes stand, each as often as it is told.
func TestReadOrderOfWhatIsWithdrawn(t *testing.T) {
	l := kinds()
	for cut := range len(l) + 1 {
		gone, there := l[:cut], l[cut:]
		reach, unreach := flagged(14, ours, next4, bytesOf(t, there)), flagged(15, ours, bytesOf(t, gone))
		origin := []byte{64, 1, 1, 9}
		expectRead(t, body(origin, reach, unreach), api.Update{Unreach: l}, api.Withdraw)
		expectRead(t, body(unreach, reach, origin), api.Update{Unreach: l}, api.Withdraw)
	}
	both := bytesOf(t, l)
	expectRead(t, body(flagged(14, ours, next4, both), flagged(15, ours, both)), api.Update{Unreach: slices.Concat(l, l)}, api.Withdraw)
	spoilt := flagged(14, ours, next6, []byte{3, 1, 7}, floodBytes, []byte{1, 0}, segmentBytes)
	expectRead(t, body(spoilt, flagged(15, ours, []byte{3, 1, 7})), api.Update{Unreach: []api.Route{flood(), segment()}}, api.Withdraw)
}

func TestReadAttributesThatDiscard(t *testing.T) {
	reach := flagged(14, ours, next4, floodBytes)
	for _, wrong := range [][]byte{{64, 6, 1, 0}, {192, 7, 3, 1, 2, 3}, {64, 1, 1, 3}, {64, 1, 1, 1}, {64, 5, 0}} {
		u := floods(flood())
		expectRead(t, body(plain(100), wrong, reach), u, api.Discard)
		u.Unreach = []api.Route{segment()}
		expectRead(t, body(plain(100), reach, wrong, flagged(15, ours, []byte{3, 1, 7}, segmentBytes)), u, api.Discard)
	}
	expectRead(t, body([]byte{64, 6, 1, 0}), api.Update{}, api.Discard)
}

// By the chapter's words, read once more in another way.
func expected(b []byte) (api.Update, int, api.Fault) {
	reset := func(f api.Fault) (api.Update, int, api.Fault) { return api.Update{}, api.Reset, f }
	list := api.Fault{Code: 3, Sub: 1}
	if len(b) < 4 {
		return reset(list)
	}
	n := int(b[0])<<8 + int(b[1])
	if len(b) < 2+n+2 {
		return reset(list)
	}
	b = b[2+n:]
	n = int(b[0])<<8 + int(b[1])
	if len(b) < 2+n {
		return reset(list)
	}
	l, e := attr.Split(b[2 : 2+n])
	if e != api.OK {
		return reset(list)
	}
	attrs, class, fault := attr.Read(l)
	if class == api.Reset {
		return reset(fault)
	}
	stands := map[int]bool{}
	var u api.Update
	for _, kind := range []int{15, 14} {
		for _, r := range l {
			stands[r.Kind] = true
			if r.Kind != kind {
				continue
			}
			data, _ := attr.Join([]api.Raw{r})
			refused := api.Fault{Code: 3, Sub: 9, Data: data}
			v := r.Value
			if len(v) < 3 {
				return reset(refused)
			}
			if v[0] != 0 || v[1] != 25 || v[2] != 70 {
				continue
			}
			v = v[3:]
			if kind == 14 {
				if len(v) < 1 || v[0] != 4 && v[0] != 16 || len(v) < 1+int(v[0])+1 {
					return reset(refused)
				}
				u.Next.V6 = v[0] == 16
				copy(u.Next.B[:], v[1:1+v[0]])
				v = v[1+v[0]+1:]
			}
			routes, wrong, e := nlri.Read(v)
			if e != api.OK {
				return reset(refused)
			}
			if wrong > 0 {
				class = max(class, api.Discard)
			}
			if kind == 14 {
				u.Reach = routes
			} else {
				u.Unreach = routes
			}
		}
	}
	if len(u.Reach) > 0 && (!stands[1] || !stands[2] || !stands[5]) {
		class = api.Withdraw
	}
	if class == api.Withdraw {
		u.Unreach = append(u.Unreach, u.Reach...)
		u.Reach = nil
	}
	if len(u.Reach) == 0 {
		u.Next = api.Ip{}
	} else {
		u.Attrs = attrs
	}
	return u, class, api.Fault{}
}

func expectAsExpected(t *testing.T, b []byte) (int, api.Fault) {
	t.Helper()
	want, class, fault := expected(b)
	got, c, f := Read(b)
	if c != class || !alike(got, want) || !sameFault(f, fault) {
		t.Errorf("Read(% x) = %+v, %d, %v; want %+v, %d, %v", b, got, c, f, want, class, fault)
	}
	return c, f
}

func randomUpdate(rnd *rand.Rand) api.Update {
	l := kinds()
	some := func() []api.Route {
		out := make([]api.Route, rnd.Intn(4))
		for i := range out {
			out[i] = l[rnd.Intn(len(l))]
			rnd.Read(out[i].Rd[:])
		}
		return out
	}
	u := api.Update{Reach: some(), Unreach: some(), Next: addr.Four(rnd.Uint32())}
	if rnd.Intn(2) == 0 {
		u.Next.V6 = true
		rnd.Read(u.Next.B[:])
	}
	if rnd.Intn(2) == 0 {
		u.Attrs = whole().Attrs
		u.Attrs.Path = make([]uint32, rnd.Intn(80))
		u.Attrs.Comms = u.Attrs.Comms[:rnd.Intn(3)]
		u.Attrs.Clusters = u.Attrs.Clusters[:rnd.Intn(3)]
	}
	u.Attrs.Origin, u.Attrs.Pref = rnd.Intn(3), rnd.Uint32()
	return u
}

// Bodies with attributes left out, put twice, put elsewhere, and with bytes turned.
func TestReadByTheChapter(t *testing.T) {
	rnd := rand.New(rand.NewSource(7))
	classes, subs := map[int]int{}, map[int]int{}
	for range 60000 {
		b, e := Put(randomUpdate(rnd))
		if e != api.OK {
			t.Fatal(e)
		}
		l, _ := attr.Split(b[4:])
		if rnd.Intn(3) == 0 {
			rnd.Shuffle(len(l), func(i, j int) { l[i], l[j] = l[j], l[i] })
		}
		if len(l) > 0 {
			switch at := rnd.Intn(len(l)); rnd.Intn(6) {
			case 0:
				l = slices.Delete(l, at, at+1)
			case 1:
				l = append(l, l[at])
			case 2:
				l[at].Value = l[at].Value[:rnd.Intn(len(l[at].Value)+1)]
			case 3:
				l[at].Flags = rnd.Intn(256)
				l[at].Value = l[at].Value[:min(255, len(l[at].Value))]
			}
		}
		joined, e := attr.Join(l)
		if e != api.OK {
			t.Fatal(l, e)
		}
		b = body(joined)
		for range rnd.Intn(3) {
			b[rnd.Intn(len(b))] ^= 1 << rnd.Intn(8)
		}
		class, fault := expectAsExpected(t, b)
		classes[class]++
		subs[fault.Sub]++
	}
	for class := range 4 {
		if classes[class] < 500 {
			t.Errorf("class %d came %d times", class, classes[class])
		}
	}
	for _, sub := range []int{1, 2, 4, 9} {
		if subs[sub] < 500 {
			t.Errorf("fault 3, %d came %d times", sub, subs[sub])
		}
	}
}

// P1: whatever the bytes are, Read ends.
func TestReadAnyBytes(t *testing.T) {
	rnd := rand.New(rand.NewSource(8))
	few := []byte{0, 1, 2, 3, 4, 14, 15, 16, 25, 64, 70, 128, 144}
	for range 60000 {
		b := make([]byte, rnd.Intn(40))
		for i := range b {
			b[i] = few[rnd.Intn(len(few))]
			if rnd.Intn(8) == 0 {
				b[i] = byte(rnd.Intn(256))
			}
		}
		if rnd.Intn(2) == 0 {
			b = body(b)
		}
		expectAsExpected(t, b)
	}
}

// P7.4

func expectRoundTrip(t *testing.T, u api.Update) {
	t.Helper()
	b, e := Put(u)
	if e != api.OK {
		t.Fatalf("Put(%v): %d", u, e)
	}
	if len(u.Reach) == 0 {
		u.Attrs, u.Next = api.Attrs{}, api.Ip{}
	}
	expectRead(t, b, u, api.Fine)
	if got, _, _ := Read(b); !Same(got, u) {
		t.Errorf("%v is read as %v", u, got)
	}
}

func TestReadOfWhatWasPut(t *testing.T) {
	u := whole()
	expectRoundTrip(t, u)
	expectRoundTrip(t, api.Update{Attrs: u.Attrs, Next: u.Next, Reach: u.Reach})
	expectRoundTrip(t, api.Update{Attrs: u.Attrs, Next: u.Next, Unreach: u.Unreach})
	expectRoundTrip(t, api.Update{Attrs: u.Attrs, Next: u.Next})
	expectRoundTrip(t, api.Update{})
	expectRoundTrip(t, api.Update{Reach: kinds(), Unreach: kinds()})
	expectRoundTrip(t, api.Update{Next: api.Ip{V6: true}, Reach: kinds()})
	full := api.Attrs{Path: make([]uint32, 255), Clusters: make([]uint32, 255)}
	expectRoundTrip(t, api.Update{Attrs: full, Reach: kinds()})
	for n := range 115 {
		expectRoundTrip(t, api.Update{Unreach: cards(n)})
		expectRoundTrip(t, api.Update{Next: six, Reach: cards(n)})
	}
}

func TestReadOfRandomUpdates(t *testing.T) {
	rnd := rand.New(rand.NewSource(9))
	for range 3000 {
		expectRoundTrip(t, randomUpdate(rnd))
	}
}

// Each body that ends too early is told so.
func TestReadAtEveryCut(t *testing.T) {
	for _, u := range []api.Update{whole(), {Unreach: kinds()}, floods(kinds()...), {}} {
		b, e := Put(u)
		if e != api.OK {
			t.Fatal(e)
		}
		for n := range len(b) {
			expectReset(t, b[:n], 1)
		}
	}
}

// Rule 4

func TestReadKeepsApart(t *testing.T) {
	wholeBody, _ := Put(whole())
	withdrawn := body([]byte{64, 1, 1, 3}, flagged(14, ours, next4, floodBytes), flagged(15, ours, segmentBytes))
	for _, b := range [][]byte{wholeBody, withdrawn} {
		room := append(bytes.Clone(b), bytes.Repeat([]byte{9}, 50)...)
		kept := bytes.Clone(room)
		got, _, _ := Read(room[:len(b)])
		want := Copy(got)
		clear(room)
		if !alike(got, want) {
			t.Errorf("the answer became %v", got)
		}
		copy(room, kept)
		spoil(got)
		if !bytes.Equal(room, kept) {
			t.Error("the argument was changed")
		}
		if again, _, _ := Read(room[:len(b)]); !alike(again, want) {
			t.Errorf("the second answer is %v", again)
		}
	}
	got, _, _ := Read(wholeBody)
	for i := range got.Reach[:cap(got.Reach)] {
		got.Reach[:cap(got.Reach)][i] = api.Route{}
	}
	if !slices.Equal(got.Unreach, whole().Unreach) {
		t.Error("two lists of the answer share memory")
	}
}

func TestReadKeepsItsDataApart(t *testing.T) {
	b := body([]byte{128, 15, 2, 0, 25})
	kept := bytes.Clone(b)
	_, _, f := Read(b)
	for i := range f.Data[:cap(f.Data)] {
		f.Data[:cap(f.Data)][i] = 9
	}
	if !bytes.Equal(b, kept) {
		t.Errorf("the argument became % x", b)
	}
}

// The chapter's examples.

func TestChapterExamples(t *testing.T) {
	expectPut(t, api.Update{}, 0, 0, 0, 0)
	expectRead(t, []byte{0, 0, 0, 0}, api.Update{}, api.Fine)
	expectReset(t, []byte{0, 0, 0}, 1)
	expectReset(t, []byte{0, 0, 0, 5, 1, 2, 3, 4}, 1)
	l, _ := attr.Split(plain(100))
	l[0].Value[0] = 3
	spoilt, _ := attr.Join(l)
	reach := flagged(14, ours, next4, floodBytes, segmentBytes)
	expectRead(t, body(spoilt, reach), api.Update{Unreach: []api.Route{flood(), segment()}}, api.Withdraw)
	expectReset(t, body(plain(100), reach, reach), 1)
}
