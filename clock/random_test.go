package clock

import (
	"math/rand"
	"slices"
	"strconv"
	"testing"

	"weft/api"
)

// slow is a second reading of the chapter: alarms in no order, looked through by each call.
type slow[K int | string | name | uint8] struct {
	keys  []K
	times []int
}

func (s *slow[K]) set(k K, at int) api.Errno {
	place := slices.Index(s.keys, k)
	switch {
	case at < 0, at > api.MaxTime:
		return api.ErrArg
	case place >= 0:
		s.times[place] = at
	case len(s.keys) == api.MaxAlarms:
		return api.ErrFull
	default:
		s.keys, s.times = append(s.keys, k), append(s.times, at)
	}
	return api.OK
}

func (s *slow[K]) cancel(k K) bool {
	for i := range s.keys {
		if s.keys[i] == k {
			s.keys, s.times = slices.Delete(s.keys, i, i+1), slices.Delete(s.times, i, i+1)
			return true
		}
	}
	return false
}

func (s *slow[K]) at(k K) (int, bool) {
	for i := range s.keys {
		if s.keys[i] == k {
			return s.times[i], true
		}
	}
	return 0, false
}

// first answers the place of the alarm that stands ahead of all others, or -1.
func (s *slow[K]) first() int {
	best := -1
	for i := range s.keys {
		if best < 0 || s.times[i] < s.times[best] || s.times[i] == s.times[best] && s.keys[i] < s.keys[best] {
			best = i
		}
	}
	return best
}

func (s *slow[K]) due(now int) []K {
	var told []K
	for {
		i := s.first()
		if i < 0 || s.times[i] > now {
			return told
		}
		told = append(told, s.keys[i])
		s.cancel(s.keys[i])
	}
}

func (s *slow[K]) next() (int, bool) {
	if i := s.first(); i >= 0 {
		return s.times[i], true
	}
	return 0, false
}

// anyTime answers mostly times that are close to one another, now and then one at the bounds.
func anyTime(r *rand.Rand, now int) int {
	if r.Intn(10) == 0 {
		odd := []int{-1, 0, api.MaxTime, api.MaxTime + 1}
		return odd[r.Intn(len(odd))]
	}
	return now + r.Intn(40) - 5
}

// atRandom holds a clock against the second reading, step by step.
func atRandom[K int | string | name | uint8](t *testing.T, r *rand.Rand, keys int, key func(n int) K) {
	t.Helper()
	c, s := New[K](), &slow[K]{}
	now := 0
	for range 4000 {
		k := key(r.Intn(keys))
		switch r.Intn(8) {
		case 0, 1, 2, 3:
			at := anyTime(r, now)
			expectSet(t, c, k, at, s.set(k, at))
		case 4:
			expectCancel(t, c, k, s.cancel(k))
		case 5:
			at, is := s.at(k)
			expectAt(t, c, k, at, is)
		default:
			now += r.Intn(9) - 2
			expectDue(t, c, now, s.due(now)...)
		}
		at, is := s.next()
		expectNext(t, c, at, is)
		expectLen(t, c, len(s.keys))
		if t.Failed() {
			return
		}
	}
	expectDue(t, c, api.MaxTime, s.due(api.MaxTime)...)
	expectLen(t, c, 0)
}

func TestAtRandom(t *testing.T) {
	r := rand.New(rand.NewSource(10))
	for _, keys := range []int{1, 2, 7, 50, 250} {
		atRandom(t, r, keys, func(n int) int { return n - keys/2 })
		atRandom(t, r, keys, strconv.Itoa)
		atRandom(t, r, keys, func(n int) name { return name(strconv.Itoa(n * 7)) })
		atRandom(t, r, keys, func(n int) uint8 { return uint8(n) })
	}
}

// With room for fewer than there are keys, Set is often refused.
func TestAtRandomWhenFull(t *testing.T) {
	r := rand.New(rand.NewSource(11))
	c, s := Ints(), &slow[int]{}
	refused := 0
	for range 12000 {
		k, at := r.Intn(3000), r.Intn(1000)
		want := s.set(k, at)
		expectSet(t, c, k, at, want)
		if want == api.ErrFull {
			refused++
		}
		if k, is := r.Intn(3000), r.Intn(4) == 0; is {
			expectCancel(t, c, k, s.cancel(k))
		}
		if t.Failed() {
			return
		}
	}
	if refused == 0 {
		t.Error("never full")
	}
	for now := 0; now <= 1000; now += 50 {
		expectDue(t, c, now, s.due(now)...)
	}
	expectLen(t, c, 0)
}

// P10.4: each key is told just once, at the first asking at its time or behind it.
func TestToldOnceAtRandom(t *testing.T) {
	r := rand.New(rand.NewSource(12))
	for range 200 {
		c := Ints()
		at := map[int]int{}
		for k := range 1 + r.Intn(60) {
			at[k] = r.Intn(100)
			expectSet(t, c, k, at[k], api.OK)
		}
		before := -1
		for before < 100 {
			now := before + 1 + r.Intn(20)
			for _, k := range c.Due(now) {
				due, is := at[k]
				if !is || due > now || due <= before {
					t.Errorf("Due(%d) behind Due(%d) told %d, which is due at %d, %v", now, before, k, due, is)
				}
				delete(at, k)
			}
			before = now
		}
		if len(at) > 0 {
			t.Errorf("never told: %v", at)
		}
	}
}
