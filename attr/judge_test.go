package attr

import (
	"math/rand"
	"testing"

	"weft/api"
)

// row is a row of the chapter's table, with its values by example.
type row struct {
	kind, flags, class int
	right, wrong       [][]byte
}

var four = [][]byte{{0, 0, 0, 0}, {0, 0, 0, 1}, {255, 255, 255, 255}}
var notFour = [][]byte{nil, {}, {1}, {1, 2, 3}, {1, 2, 3, 4, 5}, {1, 2, 3, 4, 5, 6, 7, 8}, make([]byte, 260)}

func table() []row {
	return []row{
		{1, 64, api.Withdraw, [][]byte{{0}, {1}, {2}}, [][]byte{nil, {}, {3}, {4}, {128}, {255}, {0, 0}, {0, 1}, {2, 0, 0}}},
		{2, 64, api.Withdraw, [][]byte{nil, {}, {2, 1, 0, 0, 0, 9}, {2, 2, 0, 0, 0, 9, 255, 0, 0, 1}, sequence(255)}, [][]byte{
			{0}, {2}, {2, 0}, {1, 1, 0, 0, 0, 9}, {3, 1, 0, 0, 0, 9}, {0, 1, 0, 0, 0, 9}, {2, 0, 0, 0, 0, 9}, {2, 1, 0, 0, 0}, {2, 1}, {2, 1, 0, 0, 0, 9, 1},
			{2, 2, 0, 0, 0, 9}, {2, 2, 0, 0, 0, 9, 1, 2, 3}, {2, 1, 0, 0, 0, 9, 2, 1, 0, 0, 0, 8}, {2, 1, 0, 0, 0, 9, 0, 0, 0, 8},
			sequence(255)[:1021], append(sequence(255), 1), append(sequence(255), 1, 2, 3, 4), append([]byte{2, 0}, make([]byte, 1024)...),
		}},
		{3, 64, api.Withdraw, four, notFour},
		{4, 128, api.Withdraw, four, notFour},
		{5, 64, api.Withdraw, four, notFour},
		{6, 64, api.Discard, [][]byte{nil, {}}, [][]byte{{0}, {1}, {1, 2, 3, 4}, make([]byte, 256)}},
		{7, 192, api.Discard, [][]byte{make([]byte, 8), {1, 2, 3, 4, 5, 6, 7, 8}}, [][]byte{nil, {}, {1}, make([]byte, 6), make([]byte, 7), make([]byte, 9), make([]byte, 16), make([]byte, 264)}},
		{9, 128, api.Withdraw, [][]byte{{0, 0, 0, 1}, {1, 0, 0, 0}, {0, 1, 0, 0}, {0, 0, 128, 0}, {255, 255, 255, 255}}, append(notFour, []byte{0, 0, 0, 0})},
		{10, 128, api.Withdraw, [][]byte{make([]byte, 4), make([]byte, 8), make([]byte, 12), filled(1020), filled(1024)}, [][]byte{nil, {}, {1}, make([]byte, 3), make([]byte, 5), make([]byte, 6), make([]byte, 7), make([]byte, 9), filled(1021)}},
		{14, 128, api.Reset, anyBytes(), nil},
		{15, 128, api.Reset, anyBytes(), nil},
		{16, 192, api.Withdraw, [][]byte{make([]byte, 8), make([]byte, 16), filled(24), filled(2040), filled(2048)}, [][]byte{nil, {}, {1}, make([]byte, 4), make([]byte, 7), make([]byte, 9), make([]byte, 12), make([]byte, 15), filled(2044)}},
		{22, 192, api.Withdraw, rightPmsis(), wrongPmsis()},
	}
}

func sequence(n int) []byte {
	return append([]byte{2, byte(n)}, filled(4*n)...)
}

func anyBytes() [][]byte {
	return [][]byte{nil, {}, {0}, {255}, {1, 2, 3, 4}, filled(255), filled(256), filled(65536)}
}

func rightPmsis() [][]byte {
	l := [][]byte{
		{0, 6, 0, 0, 1, 10, 0, 0, 1}, {255, 6, 255, 255, 255, 0, 0, 0, 0}, append([]byte{0, 6, 0, 0, 1}, filled(16)...),
	}
	for kind := range 256 {
		if kind == 6 {
			continue
		}
		for _, n := range []int{0, 1, 3, 4, 5, 16, 17, 300} {
			l = append(l, append([]byte{byte(n), byte(kind), 1, 2, 3}, filled(n)...))
		}
	}
	return l
}

func wrongPmsis() [][]byte {
	l := [][]byte{nil, {}, {0}, {0, 6}, {0, 6, 0, 0}, {0, 0, 0, 0}, {0, 1, 2, 3}, {6, 0, 0, 0}, {0, 5, 0, 6}}
	for n := range 24 {
		if n != 4 && n != 16 {
			l = append(l, append([]byte{0, 6, 1, 2, 3}, make([]byte, n)...))
		}
	}
	return append(l, append([]byte{0, 6, 1, 2, 3}, make([]byte, 256+4)...))
}

// knownKinds are the kinds of the table.
func knownKinds() map[int]row {
	m := map[int]row{}
	for _, r := range table() {
		m[r.kind] = r
	}
	return m
}

func expectClass(t *testing.T, r api.Raw, want int) {
	t.Helper()
	if got := Judge(r); got != want {
		t.Errorf("Judge(%d, %d, % x) = %d, want %d", r.Flags, r.Kind, r.Value[:min(len(r.Value), 24)], got, want)
	}
}

// P5.2

func TestNamesOfKinds(t *testing.T) {
	names := []int{api.AOrigin, api.APath, 3, api.AMed, api.APref, api.AAtomic, api.AAggregator, api.AOriginator, api.AClusters, api.AReach, api.AUnreach, api.AComms, api.APmsi}
	for i, r := range table() {
		if names[i] != r.kind {
			t.Errorf("row %d: %d, %d", i, names[i], r.kind)
		}
	}
}

func TestJudgeValues(t *testing.T) {
	for _, r := range table() {
		for _, v := range r.right {
			expectClass(t, api.Raw{Flags: r.flags, Kind: r.kind, Value: v}, api.Fine)
		}
		for _, v := range r.wrong {
			expectClass(t, api.Raw{Flags: r.flags, Kind: r.kind, Value: v}, r.class)
		}
	}
}

func TestJudgeEveryFlags(t *testing.T) {
	for _, r := range table() {
		for flags := range 256 {
			want := r.class
			if flags&192 == r.flags {
				want = api.Fine
			}
			expectClass(t, api.Raw{Flags: flags, Kind: r.kind, Value: r.right[0]}, want)
			if len(r.wrong) > 0 {
				expectClass(t, api.Raw{Flags: flags, Kind: r.kind, Value: r.wrong[0]}, r.class)
			}
		}
	}
}

func TestJudgeUnknownKinds(t *testing.T) {
	known := knownKinds()
	for kind := range 256 {
		if _, is := known[kind]; is {
			continue
		}
		for flags := range 256 {
			want := api.Reset
			if flags >= 128 {
				want = api.Fine
			}
			for _, v := range [][]byte{nil, {0}, {1, 2, 3, 4}} {
				expectClass(t, api.Raw{Flags: flags, Kind: kind, Value: v}, want)
			}
		}
	}
}

// A kind out of a byte's bounds is not known, even if its lowest eight bits are those of a known one.
func TestJudgeKindsThatAreNoBytes(t *testing.T) {
	kinds := append([]int{}, oddNumbers...)
	for _, r := range table() {
		kinds = append(kinds, r.kind+256, r.kind-256, r.kind+1<<32)
	}
	for _, kind := range kinds {
		for _, flags := range []int{0, 64, 127} {
			expectClass(t, api.Raw{Flags: flags, Kind: kind, Value: []byte{9}}, api.Reset)
		}
		for _, flags := range []int{128, 192, 255} {
			expectClass(t, api.Raw{Flags: flags, Kind: kind, Value: []byte{9}}, api.Fine)
		}
	}
}

func TestJudgeFlagsByTheirLowestBits(t *testing.T) {
	high := []int{256, -256, 512, 1 << 16, 1 << 32, -1 << 32, 1 << 62}
	for _, r := range table() {
		for flags := range 256 {
			want := Judge(api.Raw{Flags: flags, Kind: r.kind, Value: r.right[0]})
			for _, h := range high {
				expectClass(t, api.Raw{Flags: flags + h, Kind: r.kind, Value: r.right[0]}, want)
			}
		}
	}
	for _, h := range high {
		expectClass(t, api.Raw{Flags: h + 64, Kind: 200}, api.Reset)
		expectClass(t, api.Raw{Flags: h + 128, Kind: 200}, api.Fine)
	}
}

func TestJudgeLeavesItsArgument(t *testing.T) {
	rnd := rand.New(rand.NewSource(7))
	for _, r := range table() {
		for range 20 {
			v := filled(rnd.Intn(40))
			Judge(api.Raw{Flags: r.flags, Kind: r.kind, Value: v})
			if string(v) != string(filled(len(v))) {
				t.Errorf("kind %d: the value became % x", r.kind, v)
			}
		}
	}
}

func TestChapterExampleJudge(t *testing.T) {
	expectClass(t, api.Raw{Flags: 64, Kind: api.AOrigin, Value: []byte{3}}, api.Withdraw)
	expectClass(t, api.Raw{Flags: 192, Kind: api.AOrigin, Value: []byte{0}}, api.Withdraw)
	expectClass(t, api.Raw{Flags: 64, Kind: 200}, api.Reset)
	expectClass(t, api.Raw{Flags: 192, Kind: 200}, api.Fine)
	expectClass(t, api.Raw{Flags: 64, Kind: api.AAtomic, Value: []byte{1}}, api.Discard)
}
