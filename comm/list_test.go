package comm

import (
	"slices"
	"testing"

	"weft/api"
)

var (
	short  = api.Comm{0, 2, 0, 1, 0, 0, 0, 2}
	ip     = api.Comm{1, 2, 0, 0, 0, 1, 0, 2}
	long   = api.Comm{2, 2, 0, 0, 0, 1, 0, 2}
	moved  = api.Comm{6, 0, 1, 0, 0, 0, 0, 5}
	label  = api.Comm{6, 1, 0, 0, 0, 0, 0, 9}
	wants  = api.Comm{6, 2, 1, 2, 3, 4, 5, 6}
	router = api.Comm{6, 3, 1, 2, 3, 4, 5, 6}
	encap  = api.Comm{3, 12, 0, 0, 0, 0, 0, 8}
	odd    = api.Comm{7, 7}
)

var nones = [][]api.Comm{nil, {}, make([]api.Comm, 0, 4)}

func comms(l ...api.Comm) []api.Comm {
	return l
}

// oneByteOff answers the communities that differ from c in one byte alone.
func oneByteOff(c api.Comm) []api.Comm {
	var out []api.Comm
	for at := range c {
		for step := 1; step < 256; step++ {
			d := c
			d[at] += byte(step)
			out = append(out, d)
		}
	}
	return out
}

// P4.3

func TestSet(t *testing.T) {
	rows := []struct{ l, want []api.Comm }{
		{nil, nil},
		{comms(moved), comms(moved)},
		{comms(moved, moved), comms(moved)},
		{comms(moved, moved, moved), comms(moved)},
		{comms(short, long), comms(short, long)},
		{comms(long, short), comms(short, long)},
		{comms(moved, short, moved, long), comms(short, long, moved)},
		{comms(odd, router, wants, label, moved, encap, long, ip, short), comms(short, ip, long, encap, moved, label, wants, router, odd)},
		{comms(short, odd, short, odd, short), comms(short, odd)},
		{comms(api.Comm{}, api.Comm{255}, api.Comm{}), comms(api.Comm{}, api.Comm{255})},
		{comms(api.Comm{128}, api.Comm{127}, api.Comm{127, 255}), comms(api.Comm{127}, api.Comm{127, 255}, api.Comm{128})},
	}
	for _, r := range rows {
		if got := Set(r.l); !slices.Equal(got, r.want) {
			t.Errorf("Set(%v) = %v, want %v", r.l, got, r.want)
		}
	}
	for _, none := range nones {
		if got := Set(none); len(got) != 0 {
			t.Errorf("Set of nothing = %v", got)
		}
	}
}

func TestSetKeepsWhatDiffersInOneByte(t *testing.T) {
	for _, c := range []api.Comm{short, moved, label, encap, odd} {
		l := append(oneByteOff(c), c)
		slices.Reverse(l)
		got := Set(append(l, l...))
		if len(got) != len(l) {
			t.Errorf("of % x and %d others %d are left", c, len(l)-1, len(got))
		}
		for i := range len(got) - 1 {
			if Compare(got[i], got[i+1]) != -1 {
				t.Fatalf("% x stands ahead of % x", got[i], got[i+1])
			}
		}
		for _, x := range l {
			if !slices.Contains(got, x) {
				t.Fatalf("% x is lost", x)
			}
		}
	}
}

func TestFind(t *testing.T) {
	all := comms(odd, short, ip, long, moved, label, wants, router, encap)
	for kind, want := range comms(odd, short, moved, label, wants, router, encap) {
		if got, is := Find(all, kind); got != want || !is {
			t.Errorf("Find(all, %d) = % x, %v", kind, got, is)
		}
		var rest []api.Comm
		for _, c := range all {
			if Read(c).Kind != kind {
				rest = append(rest, c)
			}
		}
		if got, is := Find(rest, kind); got != (api.Comm{}) || is {
			t.Errorf("Find(without it, %d) = % x, %v", kind, got, is)
		}
	}
	for _, kind := range []int{-1 << 63, -1 << 32, -256, -1, 7, 8, 256, 257, 1 << 32, 1<<32 + 1, 1<<63 - 1} {
		if got, is := Find(all, kind); got != (api.Comm{}) || is {
			t.Errorf("Find(all, %d) = % x, %v", kind, got, is)
		}
	}
}

func TestFindTheFirstInTheListsOrder(t *testing.T) {
	rows := []struct {
		l    []api.Comm
		kind int
		want api.Comm
	}{
		{comms(long, short), Target, long},
		{comms(moved, ip, long, short), Target, ip},
		{comms(short, api.Comm{9}, api.Comm{8}), Other, api.Comm{9}},
		{comms(MakeMobility(false, 9), MakeMobility(false, 1)), Mobility, MakeMobility(false, 9)},
		{comms(short, api.Comm{}), Other, api.Comm{}},
	}
	for _, r := range rows {
		if got, is := Find(r.l, r.kind); got != r.want || !is {
			t.Errorf("Find(%v, %d) = % x, %v", r.l, r.kind, got, is)
		}
	}
	for _, none := range nones {
		for kind := -1; kind < 8; kind++ {
			if got, is := Find(none, kind); got != (api.Comm{}) || is {
				t.Errorf("Find(nothing, %d) = % x, %v", kind, got, is)
			}
		}
	}
}

func TestTargets(t *testing.T) {
	rows := []struct{ l, want []api.Comm }{
		{comms(moved), nil},
		{comms(odd, label, wants, router, encap, moved), nil},
		{comms(short), comms(short)},
		{comms(long, moved, ip, odd, short), comms(long, ip, short)},
		{comms(moved, short, short, moved, long, short), comms(short, short, long, short)},
		{comms(api.Comm{3, 2}, api.Comm{0, 3}, api.Comm{2, 0}, api.Comm{0x40, 2}, api.Comm{2, 2}), comms(api.Comm{2, 2})},
	}
	for _, r := range rows {
		if got := Targets(r.l); !slices.Equal(got, r.want) {
			t.Errorf("Targets(%v) = %v, want %v", r.l, got, r.want)
		}
	}
	for _, none := range nones {
		if got := Targets(none); len(got) != 0 {
			t.Errorf("Targets of nothing = %v", got)
		}
	}
}

func TestMeet(t *testing.T) {
	rows := []struct {
		a, b []api.Comm
		want bool
	}{
		{comms(short), comms(short), true},
		{comms(ip), comms(ip), true},
		{comms(long), comms(long), true},
		{comms(short, short), comms(short), true},
		{comms(long, short), comms(moved, odd, short), true},
		{comms(moved, ip), comms(ip, long), true},
		{comms(short), comms(ip), false},
		{comms(short), comms(long), false},
		{comms(ip), comms(long), false},
		{comms(short, ip), comms(long), false},
		{comms(moved), comms(moved), false},
		{comms(moved, short), comms(moved, long), false},
		{comms(odd, label, wants, router, encap, moved), comms(odd, label, wants, router, encap, moved), false},
		{comms(odd, label, wants, router, encap, moved, ip), comms(odd, label, wants, router, encap, moved, ip), true},
		{comms(api.Comm{}), comms(api.Comm{}), false},
		{comms(api.Comm{3, 2}), comms(api.Comm{3, 2}), false},
		{comms(api.Comm{0, 2}), comms(api.Comm{0, 2}), true},
	}
	for _, r := range rows {
		if Meet(r.a, r.b) != r.want || Meet(r.b, r.a) != r.want {
			t.Errorf("Meet(%v, %v) = %v, back %v", r.a, r.b, Meet(r.a, r.b), Meet(r.b, r.a))
		}
	}
	for _, none := range nones {
		if Meet(none, none) || Meet(none, comms(short)) || Meet(comms(short), none) {
			t.Error("nothing meets something")
		}
	}
}

func TestMeetOfWhatDiffersInOneByte(t *testing.T) {
	for _, c := range []api.Comm{short, ip, long} {
		l := oneByteOff(c)
		if Meet(comms(c), l) || Meet(l, comms(c)) {
			t.Errorf("% x meets another one", c)
		}
		if !Meet(comms(c), append(l, c)) || !Meet(append(l, c), comms(c)) {
			t.Errorf("% x doesn't meet itself", c)
		}
	}
}

func TestLongLists(t *testing.T) {
	const count = 200000
	var a, b []api.Comm
	for i := range uint32(count) {
		c, _ := MakeTarget(1, 2*i)
		d, _ := MakeTarget(1, 2*i+1)
		a, b = append(a, c), append(b, d)
	}
	if Meet(a, b) || Meet(b, a) || !Meet(a, append(b, a[count-1])) {
		t.Error("Meet of long lists")
	}
	slices.Reverse(a)
	if got := Set(append(a, a...)); len(got) != count || !slices.IsSortedFunc(got, Compare) {
		t.Errorf("Set of a long list: %d", len(got))
	}
}

// Rule 4: what is handed in stays as it is, its spare room too, and shares no memory with what is answered.
func TestListsAreLeftAlone(t *testing.T) {
	room := comms(moved, long, short, moved, short, odd, short, ip)
	before := slices.Clone(room)
	l := room[:6]
	calls := map[string]func() []api.Comm{
		"Set":                            func() []api.Comm { return Set(l) },
		"Targets":                        func() []api.Comm { return Targets(l) },
		"Set of what is a set":           func() []api.Comm { return Set(room[2:3]) },
		"Targets of nothing but targets": func() []api.Comm { return Targets(room[1:3]) },
		"Set of nothing":                 func() []api.Comm { return Set(room[:0]) },
		"Targets of nothing":             func() []api.Comm { return Targets(room[:0]) },
	}
	for name, call := range calls {
		first, second := call(), call()
		want := slices.Clone(second)
		spare := first[:cap(first)]
		for i := range spare {
			spare[i] = api.Comm{99}
		}
		if !slices.Equal(room, before) || !slices.Equal(second, want) {
			t.Errorf("%s: the argument is %v, a second answer %v", name, room, second)
		}
	}

	Find(l, Target)
	Meet(l, l)
	if !slices.Equal(room, before) {
		t.Errorf("the argument is %v", room)
	}
}
