package attr

import (
	"bytes"
	"encoding/binary"
	"math/rand"
	"reflect"
	"slices"
	"testing"

	"weft/api"
)

// rightOnes answers right attributes, one of each known kind, in the table's order.
func rightOnes() []api.Raw {
	return []api.Raw{
		{Flags: 64, Kind: api.AOrigin, Value: []byte{2}},
		{Flags: 64, Kind: api.APath, Value: []byte{2, 2, 0, 0, 253, 233, 1, 2, 3, 4}},
		{Flags: 64, Kind: 3, Value: []byte{10, 0, 0, 9}},
		{Flags: 128, Kind: api.AMed, Value: []byte{0, 0, 1, 0}},
		{Flags: 64, Kind: api.APref, Value: []byte{255, 0, 0, 100}},
		{Flags: 64, Kind: api.AAtomic},
		{Flags: 192, Kind: api.AAggregator, Value: []byte{1, 2, 3, 4, 5, 6, 7, 8}},
		{Flags: 128, Kind: api.AOriginator, Value: []byte{10, 0, 0, 7}},
		{Flags: 128, Kind: api.AClusters, Value: []byte{0, 0, 0, 7, 128, 0, 0, 8}},
		{Flags: 128, Kind: api.AReach, Value: []byte{1}},
		{Flags: 128, Kind: api.AUnreach, Value: []byte{1, 2}},
		{Flags: 192, Kind: api.AComms, Value: []byte{0, 2, 253, 232, 0, 0, 0, 100, 6, 0, 1, 0, 0, 0, 0, 5}},
		{Flags: 192, Kind: api.APmsi, Value: []byte{77, 6, 1, 2, 3, 10, 0, 0, 1}},
	}
}

// whole is what rightOnes say.
func whole() api.Attrs {
	return api.Attrs{
		Origin:     2,
		Path:       []uint32{65001, 0x01020304},
		HasMed:     true,
		Med:        256,
		Pref:       0xff000064,
		Originator: 0x0a000007,
		Clusters:   []uint32{7, 0x80000008},
		Comms:      []api.Comm{{0, 2, 253, 232, 0, 0, 0, 100}, {6, 0, 1, 0, 0, 0, 0, 5}},
		Pmsi:       api.Pmsi{Kind: 6, Label: 0x010203, Ip: api.Ip{B: [16]byte{10, 0, 0, 1}}},
	}
}

// alike holds attributes against each other without the package's own Same.
func alike(a, b api.Attrs) bool {
	for _, x := range []*api.Attrs{&a, &b} {
		if len(x.Path) == 0 {
			x.Path = nil
		}
		if len(x.Clusters) == 0 {
			x.Clusters = nil
		}
		if len(x.Comms) == 0 {
			x.Comms = nil
		}
	}
	return reflect.DeepEqual(a, b)
}

func expectRead(t *testing.T, l []api.Raw, a api.Attrs, class int, f api.Fault) {
	t.Helper()
	gotA, gotClass, gotF := Read(l)
	if !alike(gotA, a) || gotClass != class || gotF.Code != f.Code || gotF.Sub != f.Sub || !bytes.Equal(gotF.Data, f.Data) {
		t.Errorf("Read(%v) = %v, %d, %v; want %v, %d, %v", l, gotA, gotClass, gotF, a, class, f)
	}
}

func expectReset(t *testing.T, l []api.Raw, sub int, data ...byte) {
	t.Helper()
	expectRead(t, l, api.Attrs{}, api.Reset, api.Fault{Code: 3, Sub: sub, Data: data})
}

// P5.3

func TestReadNothing(t *testing.T) {
	expectRead(t, nil, api.Attrs{}, api.Fine, api.Fault{})
	expectRead(t, []api.Raw{}, api.Attrs{}, api.Fine, api.Fault{})
}

func TestReadAll(t *testing.T) {
	expectRead(t, rightOnes(), whole(), api.Fine, api.Fault{})
	back := rightOnes()
	slices.Reverse(back)
	expectRead(t, back, whole(), api.Fine, api.Fault{})
}

func TestReadEachAlone(t *testing.T) {
	w := whole()
	want := map[int]api.Attrs{
		api.AOrigin:     {Origin: w.Origin},
		api.APath:       {Path: w.Path},
		api.AMed:        {HasMed: true, Med: w.Med},
		api.APref:       {Pref: w.Pref},
		api.AOriginator: {Originator: w.Originator},
		api.AClusters:   {Clusters: w.Clusters},
		api.AComms:      {Comms: w.Comms},
		api.APmsi:       {Pmsi: w.Pmsi},
	}
	for _, r := range rightOnes() {
		expectRead(t, []api.Raw{r}, want[r.Kind], api.Fine, api.Fault{})
	}
}

func TestReadMedZeroIsThere(t *testing.T) {
	expectRead(t, []api.Raw{{Flags: 128, Kind: api.AMed, Value: make([]byte, 4)}}, api.Attrs{HasMed: true}, api.Fine, api.Fault{})
}

func TestReadEmptyPath(t *testing.T) {
	for _, v := range [][]byte{nil, {}} {
		expectRead(t, []api.Raw{{Flags: 64, Kind: api.APath, Value: v}}, api.Attrs{}, api.Fine, api.Fault{})
	}
}

func TestReadLists(t *testing.T) {
	for _, n := range []int{1, 2, 254, 255, 256, 1000} {
		numbers := make([]uint32, n)
		var b []byte
		for i := range numbers {
			numbers[i] = uint32(i) * 0x01030507
			b = binary.BigEndian.AppendUint32(b, numbers[i])
		}
		expectRead(t, []api.Raw{{Flags: 144, Kind: api.AClusters, Value: b}}, api.Attrs{Clusters: numbers}, api.Fine, api.Fault{})
		if n <= 255 {
			v := append([]byte{2, byte(n)}, b...)
			expectRead(t, []api.Raw{{Flags: 80, Kind: api.APath, Value: v}}, api.Attrs{Path: numbers}, api.Fine, api.Fault{})
		}
		comms := make([]api.Comm, n)
		b = nil
		for i := range comms {
			comms[i] = api.Comm{byte(i >> 8), byte(i), 3, 4, 5, 6, 7, byte(n)}
			b = append(b, comms[i][:]...)
		}
		expectRead(t, []api.Raw{{Flags: 208, Kind: api.AComms, Value: b}}, api.Attrs{Comms: comms}, api.Fine, api.Fault{})
	}
}

func TestReadPmsi(t *testing.T) {
	six := [16]byte{1, 2, 3, 4, 5, 6, 7, 8, 9, 10, 11, 12, 13, 14, 15, 16}
	rows := []struct {
		v    []byte
		want api.Pmsi
	}{
		{[]byte{0, 0, 0, 0, 0}, api.Pmsi{}},
		{[]byte{9, 0, 1, 2, 3, 10, 0, 0, 1}, api.Pmsi{}},
		{[]byte{9, 1, 0, 0, 0}, api.Pmsi{Kind: 1}},
		{[]byte{0, 1, 1, 2, 3, 10, 0, 0, 1}, api.Pmsi{Kind: 1, Label: 0x010203}},
		{[]byte{0, 5, 255, 255, 255}, api.Pmsi{Kind: 5, Label: api.MaxLabel}},
		{[]byte{0, 7, 0, 0, 1, 1, 2, 3, 4}, api.Pmsi{Kind: 7, Label: 1}},
		{[]byte{0, 255, 0, 1, 0}, api.Pmsi{Kind: 255, Label: 256}},
		{[]byte{255, 6, 0, 0, 100, 10, 0, 0, 1}, api.Pmsi{Kind: 6, Label: 100, Ip: api.Ip{B: [16]byte{10, 0, 0, 1}}}},
		{[]byte{0, 6, 0, 0, 0, 0, 0, 0, 0}, api.Pmsi{Kind: 6}},
		{append([]byte{0, 6, 255, 255, 255}, six[:]...), api.Pmsi{Kind: 6, Label: api.MaxLabel, Ip: api.Ip{V6: true, B: six}}},
		{append([]byte{0, 6, 0, 0, 1}, make([]byte, 16)...), api.Pmsi{Kind: 6, Label: 1, Ip: api.Ip{V6: true}}},
	}
	for _, r := range rows {
		expectRead(t, []api.Raw{{Flags: 192, Kind: api.APmsi, Value: r.v}}, api.Attrs{Pmsi: r.want}, api.Fine, api.Fault{})
	}
}

// without answers whole without what the kind says.
func without(kind int) api.Attrs {
	a := whole()
	switch kind {
	case api.AOrigin:
		a.Origin = 0
	case api.APath:
		a.Path = nil
	case api.AMed:
		a.HasMed, a.Med = false, 0
	case api.APref:
		a.Pref = 0
	case api.AOriginator:
		a.Originator = 0
	case api.AClusters:
		a.Clusters = nil
	case api.AComms:
		a.Comms = nil
	case api.APmsi:
		a.Pmsi = api.Pmsi{}
	}
	return a
}

func TestReadOneWrongAmongRightOnes(t *testing.T) {
	for i, r := range table() {
		if r.class == api.Reset {
			continue
		}
		for _, v := range r.wrong {
			l := rightOnes()
			l[i].Value = v
			expectRead(t, l, without(r.kind), r.class, api.Fault{})
		}
		l := rightOnes()
		l[i].Flags ^= 64
		expectRead(t, l, without(r.kind), r.class, api.Fault{})
	}
}

func TestReadTellsTheWorstClass(t *testing.T) {
	discard := api.Raw{Flags: 64, Kind: api.AAtomic, Value: []byte{1}}
	withdraw := api.Raw{Flags: 64, Kind: api.AOrigin, Value: []byte{3}}
	fine := api.Raw{Flags: 64, Kind: api.APref, Value: []byte{0, 0, 0, 5}}
	want := api.Attrs{Pref: 5}
	expectRead(t, []api.Raw{discard, withdraw, fine}, want, api.Withdraw, api.Fault{})
	expectRead(t, []api.Raw{withdraw, discard, fine}, want, api.Withdraw, api.Fault{})
	expectRead(t, []api.Raw{fine, discard}, want, api.Discard, api.Fault{})
	expectRead(t, []api.Raw{withdraw, fine, fine}, want, api.Withdraw, api.Fault{})
	expectRead(t, []api.Raw{fine, fine, withdraw}, want, api.Withdraw, api.Fault{})
}

func TestReadEachKindTwice(t *testing.T) {
	for i, r := range rightOnes() {
		second := api.Raw{Flags: r.Flags, Kind: r.Kind, Value: table()[i].right[0]}
		if r.Kind == api.AReach || r.Kind == api.AUnreach {
			expectReset(t, append(rightOnes(), second), 1)
			expectReset(t, []api.Raw{r, r}, 1)
			continue
		}
		expectRead(t, append(rightOnes(), second), whole(), api.Discard, api.Fault{})
		expectRead(t, append(rightOnes(), second, second), whole(), api.Discard, api.Fault{})
		wrong := api.Raw{Flags: r.Flags ^ 64, Kind: r.Kind, Value: r.Value}
		expectRead(t, append(rightOnes(), wrong), whole(), api.Discard, api.Fault{})
	}
}

// The first one of a kind counts, even if it is wrong.
func TestReadRightBehindWrong(t *testing.T) {
	for _, r := range rightOnes() {
		if r.Kind == api.AReach || r.Kind == api.AUnreach {
			continue
		}
		wrong := api.Raw{Flags: r.Flags ^ 64, Kind: r.Kind, Value: r.Value}
		expectRead(t, append([]api.Raw{wrong}, rightOnes()...), without(r.Kind), Judge(wrong), api.Fault{})
	}
}

func TestReadReachAndUnreachAreTwoKinds(t *testing.T) {
	expectRead(t, []api.Raw{{Flags: 128, Kind: api.AReach}, {Flags: 128, Kind: api.AUnreach}}, api.Attrs{}, api.Fine, api.Fault{})
	expectReset(t, []api.Raw{{Flags: 128, Kind: api.AReach}, {Flags: 128, Kind: api.AUnreach}, {Flags: 128, Kind: api.AReach}}, 1)
}

// That it is the second one is told ahead of its wrong flags.
func TestReadSecondReachWithWrongFlags(t *testing.T) {
	for _, kind := range []int{api.AReach, api.AUnreach} {
		expectReset(t, []api.Raw{{Flags: 128, Kind: kind}, {Flags: 64, Kind: kind, Value: []byte{1}}}, 1)
		expectReset(t, []api.Raw{{Flags: 64, Kind: kind, Value: []byte{1}}, {Flags: 128, Kind: kind}}, 4, 64, byte(kind), 1, 1)
	}
}

func TestReadUnknownKinds(t *testing.T) {
	known := knownKinds()
	for kind := range 256 {
		if _, is := known[kind]; is {
			continue
		}
		optional := api.Raw{Flags: 128, Kind: kind, Value: []byte{1}}
		expectRead(t, []api.Raw{optional, optional, optional}, api.Attrs{}, api.Fine, api.Fault{})
		l := append(rightOnes(), optional, optional)
		expectRead(t, l, whole(), api.Fine, api.Fault{})
		expectReset(t, append(l, api.Raw{Flags: 64, Kind: kind, Value: []byte{5, 6}}), 2, 64, byte(kind), 2, 5, 6)
	}
}

func TestReadResetOfKnownKinds(t *testing.T) {
	for _, kind := range []int{api.AReach, api.AUnreach} {
		for _, flags := range []int{0, 64, 192, 239} {
			expectReset(t, []api.Raw{{Flags: flags, Kind: kind, Value: []byte{7}}}, 4, byte(flags), byte(kind), 1, 7)
		}
		for _, flags := range []int{16, 80, 255} {
			expectReset(t, []api.Raw{{Flags: flags, Kind: kind, Value: []byte{7}}}, 4, byte(flags), byte(kind), 0, 1, 7)
		}
	}
}

func TestReadTheFirstResetEndsIt(t *testing.T) {
	unknown := api.Raw{Flags: 64, Kind: 99, Value: []byte{1}}
	reach := api.Raw{Flags: 64, Kind: api.AReach, Value: []byte{2}}
	withdraw := api.Raw{Flags: 64, Kind: api.AOrigin, Value: []byte{3}}
	expectReset(t, append([]api.Raw{unknown}, rightOnes()...), 2, 64, 99, 1, 1)
	expectReset(t, append(rightOnes(), unknown), 2, 64, 99, 1, 1)
	expectReset(t, slices.Insert(rightOnes(), 5, unknown), 2, 64, 99, 1, 1)
	expectReset(t, []api.Raw{unknown, reach}, 2, 64, 99, 1, 1)
	expectReset(t, []api.Raw{reach, unknown}, 4, 64, 14, 1, 2)
	expectReset(t, []api.Raw{reach, reach}, 4, 64, 14, 1, 2)
	expectReset(t, []api.Raw{withdraw, unknown, withdraw}, 2, 64, 99, 1, 1)
	right := api.Raw{Flags: 128, Kind: api.AReach}
	expectReset(t, []api.Raw{right, right, unknown}, 1)
	expectReset(t, []api.Raw{right, unknown, right}, 2, 64, 99, 1, 1)
}

func TestReadResetWithoutData(t *testing.T) {
	for _, n := range oddNumbers {
		flags := n &^ 128
		if flags < 0 || flags > 255 {
			expectReset(t, []api.Raw{{Flags: flags, Kind: 99, Value: []byte{1}}}, 2)
		}
		expectReset(t, []api.Raw{{Flags: 64, Kind: n, Value: []byte{1}}}, 2)
		if n&192 != 128 {
			expectReset(t, []api.Raw{{Flags: n, Kind: api.AReach, Value: []byte{1}}}, 4)
		}
	}
	expectReset(t, []api.Raw{{Flags: 64, Kind: 99, Value: filled(256)}}, 2)
	expectReset(t, []api.Raw{{Flags: 80, Kind: api.AReach, Value: filled(65536)}}, 4)
	expectReset(t, []api.Raw{{Flags: 64, Kind: 99, Value: filled(255)}}, 2, append([]byte{64, 99, 255}, filled(255)...)...)
	expectReset(t, []api.Raw{{Flags: 80, Kind: 14, Value: filled(65535)}}, 4, append([]byte{80, 14, 255, 255}, filled(65535)...)...)
}

// A kind out of a byte's bounds is not the kind of its lowest eight bits.
func TestReadKindsThatAreNoBytes(t *testing.T) {
	for _, r := range rightOnes() {
		for _, high := range []int{256, -256, 1 << 40} {
			strange := api.Raw{Flags: 192, Kind: r.Kind + high, Value: r.Value}
			expectRead(t, []api.Raw{strange, strange}, api.Attrs{}, api.Fine, api.Fault{})
			expectRead(t, append([]api.Raw{strange}, rightOnes()...), whole(), api.Fine, api.Fault{})
		}
	}
}

func TestReadFlagsByTheirLowestBits(t *testing.T) {
	l := rightOnes()
	for i := range l {
		l[i].Flags += (i - 6) << 8
	}
	expectRead(t, l, whole(), api.Fine, api.Fault{})
}

// expected reads by the chapter's words, over Judge.
func expected(l []api.Raw, known map[int]row) (api.Attrs, int, api.Fault) {
	first := map[int]api.Raw{}
	class := api.Fine
	for _, r := range l {
		_, isKnown := known[r.Kind]
		_, isSecond := first[r.Kind]
		if isKnown && isSecond {
			if r.Kind == 14 || r.Kind == 15 {
				return api.Attrs{}, api.Reset, api.Fault{Code: 3, Sub: 1}
			}
			class = max(class, api.Discard)
			continue
		}
		if Judge(r) == api.Reset {
			data, _ := Join([]api.Raw{r})
			if isKnown {
				return api.Attrs{}, api.Reset, api.Fault{Code: 3, Sub: 4, Data: data}
			}
			return api.Attrs{}, api.Reset, api.Fault{Code: 3, Sub: 2, Data: data}
		}
		class = max(class, Judge(r))
		if isKnown {
			first[r.Kind] = r
		}
	}
	return told(first), class, api.Fault{}
}

func told(first map[int]api.Raw) api.Attrs {
	var a api.Attrs
	for kind, r := range first {
		if Judge(r) != api.Fine {
			continue
		}
		v := r.Value
		switch kind {
		case 1:
			a.Origin = int(v[0])
		case 2:
			for i := 2; i < len(v); i += 4 {
				a.Path = append(a.Path, binary.BigEndian.Uint32(v[i:]))
			}
		case 4:
			a.HasMed, a.Med = true, binary.BigEndian.Uint32(v)
		case 5:
			a.Pref = binary.BigEndian.Uint32(v)
		case 9:
			a.Originator = binary.BigEndian.Uint32(v)
		case 10:
			for i := 0; i < len(v); i += 4 {
				a.Clusters = append(a.Clusters, binary.BigEndian.Uint32(v[i:]))
			}
		case 16:
			for i := 0; i < len(v); i += 8 {
				a.Comms = append(a.Comms, api.Comm(v[i:i+8]))
			}
		case 22:
			if v[1] == 0 {
				continue
			}
			a.Pmsi.Kind = int(v[1])
			a.Pmsi.Label = uint32(v[2])<<16 | uint32(v[3])<<8 | uint32(v[4])
			if v[1] == 6 {
				a.Pmsi.Ip.V6 = len(v) == 21
				copy(a.Pmsi.Ip.B[:], v[5:])
			}
		}
	}
	return a
}

func TestReadByTheChapter(t *testing.T) {
	rnd := rand.New(rand.NewSource(8))
	rows, known := table(), knownKinds()
	classes := map[int]int{}
	for range 20000 {
		l := make([]api.Raw, rnd.Intn(8))
		for i := range l {
			row := rows[rnd.Intn(len(rows))]
			l[i] = api.Raw{Flags: row.flags | rnd.Intn(64), Kind: row.kind, Value: row.right[rnd.Intn(len(row.right))]}
			switch rnd.Intn(12) {
			case 0:
				l[i].Flags = rnd.Intn(256)
			case 1:
				l[i].Kind = rnd.Intn(256)
			case 2:
				if len(row.wrong) > 0 {
					l[i].Value = row.wrong[rnd.Intn(len(row.wrong))]
				}
			case 3:
				l[i].Flags, l[i].Kind = 128, 100+rnd.Intn(3)
			}
		}
		a, class, f := expected(l, known)
		expectRead(t, l, a, class, f)
		classes[class]++
	}
	for class := range 4 {
		if classes[class] < 500 {
			t.Errorf("class %d came %d times", class, classes[class])
		}
	}
}

// Rule 4

func TestReadKeepsApart(t *testing.T) {
	l := rightOnes()
	a, _, _ := Read(l)
	for _, r := range l {
		for i := range r.Value {
			r.Value[i] = 99
		}
	}
	if !alike(a, whole()) {
		t.Errorf("the answer became %v", a)
	}
	l = rightOnes()
	a, _, _ = Read(l)
	a.Path[0], a.Clusters[0], a.Comms[0] = 1, 1, api.Comm{}
	spare := a.Path[:cap(a.Path)]
	for i := range spare {
		spare[i] = 3
	}
	if a.Clusters[1] != 0x80000008 {
		t.Error("one list's room reaches another one")
	}
	if !sameRaws(l, rightOnes()) {
		t.Errorf("the arguments became %v", l)
	}
}

func TestReadKeepsItsDataApart(t *testing.T) {
	v := []byte{1, 2, 3, 4}
	_, _, f := Read([]api.Raw{{Flags: 64, Kind: 99, Value: v[:2]}})
	spare := f.Data[:cap(f.Data)]
	for i := range spare {
		spare[i] = 9
	}
	if !bytes.Equal(v, []byte{1, 2, 3, 4}) {
		t.Errorf("the value became % x", v)
	}
}

func TestChapterExampleRead(t *testing.T) {
	l := []api.Raw{{Flags: 64, Kind: api.AOrigin, Value: []byte{0}}, {Flags: 64, Kind: api.AOrigin, Value: []byte{1}}}
	expectRead(t, l, api.Attrs{}, api.Discard, api.Fault{})
	slices.Reverse(l)
	expectRead(t, l, api.Attrs{Origin: 1}, api.Discard, api.Fault{})
}
