package comm

import (
	"slices"

	"weft/api"
)

// Set answers the communities of l, rising, each once.
func Set(l []api.Comm) []api.Comm {
	all := make([]api.Comm, len(l))
	copy(all, l)
	slices.SortFunc(all, Compare)
	return slices.Compact(all)
}

// Find answers the first community of that kind.
func Find(l []api.Comm, kind int) (api.Comm, bool) {
	for _, c := range l {
		if isOf(c, kind) {
			return c, true
		}
	}
	return api.Comm{}, false
}

// Targets answers the targets of l, in their order.
func Targets(l []api.Comm) []api.Comm {
	var out []api.Comm
	for _, c := range l {
		if isOf(c, Target) {
			out = append(out, c)
		}
	}
	return out
}

// Meet tells whether a target of a is one of b too.
func Meet(a, b []api.Comm) bool {
	// Arrays are compared as the map's keys, so that long lists don't take the product of their lengths.
	in := map[api.Comm]struct{}{}
	for _, c := range b {
		in[c] = struct{}{}
	}
	for _, c := range a {
		if _, is := in[c]; is && isOf(c, Target) {
			return true
		}
	}
	return false
}
