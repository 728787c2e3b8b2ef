package bits_test

import (
	"math"
	"testing"

	"gleaning/api"
	"gleaning/bits"
)

// sizes end before, at and behind the ends of words of 64 bits.
var sizes = []int{0, 1, 2, 62, 63, 64, 65, 100, 127, 128, 129, 191, 192, 193, 4031, 4032, 4033, api.MaxWords - 1, api.MaxWords}

// edges are the numbers around which a comparison, a shift, a sum or a difference may go wrong.
var edges = []int{
	math.MinInt, math.MinInt + 1, math.MinInt + 63, math.MinInt + 64, math.MinInt + api.MaxWords, math.MinInt / 2, math.MinInt / 64,
	-api.MaxWords - 1, -api.MaxWords, -129, -128, -65, -64, -63, -2, -1, 0, 1, 2, 62, 63, 64, 65, 99, 100, 127, 128, 129,
	api.MaxWords - 65, api.MaxWords - 64, api.MaxWords - 63, api.MaxWords - 1, api.MaxWords, api.MaxWords + 1, api.MaxWords + 64,
	1 << 32, 1<<32 + 3, math.MaxInt32, math.MaxInt32 + 1, math.MaxInt / 64, math.MaxInt/64 + 1, math.MaxInt / 2, math.MaxInt/2 + 1,
	math.MaxInt - api.MaxWords, math.MaxInt - 64, math.MaxInt - 63, math.MaxInt - 1, math.MaxInt,
}

// model is a bitmap as the chapter words it: a bool for each index.
type model []bool

func (l model) has(at int) bool { return at >= 0 && at < len(l) && l[at] }

func (l model) next(at int) int {
	for i, set := range l {
		if set && i >= at {
			return i
		}
	}
	return -1
}

func (l model) between(from, to int) int {
	n := 0
	for i, set := range l {
		if set && i >= from && i < to {
			n++
		}
	}
	return n
}

// points are the edges of all maps and those of one of this size.
func points(places int) []int {
	return append([]int{places - 65, places - 64, places - 2, places - 1, places, places + 1, places + 63, places + 64}, edges...)
}

// patterns say of an index whether it is set.
var patterns = map[string]func(at int) bool{
	"none":                      func(at int) bool { return false },
	"all":                       func(at int) bool { return true },
	"the first":                 func(at int) bool { return at == 0 },
	"the second":                func(at int) bool { return at == 1 },
	"every third":               func(at int) bool { return at%3 == 0 },
	"the first of each word":    func(at int) bool { return at%64 == 0 },
	"the last of each word":     func(at int) bool { return at%64 == 63 },
	"all but those":             func(at int) bool { return at%64 != 0 && at%64 != 63 },
	"the third word":            func(at int) bool { return at/64 == 2 },
	"the last word's":           func(at int) bool { return at >= api.MaxWords-64 },
	"the last index":            func(at int) bool { return at == api.MaxWords-1 },
	"3 and 70":                  func(at int) bool { return at == 3 || at == 70 },
	"those that mix their bits": func(at int) bool { return (at*2654435761>>7)&5 == 1 },
}

// laid is a map, and its model, with the indices set that a pattern takes.
func laid(t *testing.T, places int, takes func(at int) bool) (*bits.Map, model) {
	t.Helper()
	m, l := bits.New(places), make(model, places)
	for at := range l {
		if takes(at) {
			if !m.Set(at) {
				t.Fatalf("of %d: Set(%d) of one not set is false", places, at)
			}
			l[at] = true
		}
	}
	return m, l
}

// wantWhole reads a map by each call that tells something without the help of the others.
func wantWhole(t *testing.T, what string, m *bits.Map, l model) {
	t.Helper()
	if m.Len() != len(l) {
		t.Errorf("%s: Len() = %d, want %d", what, m.Len(), len(l))
	}
	if n := l.between(0, len(l)); m.Count() != n {
		t.Errorf("%s: Count() = %d, want %d", what, m.Count(), n)
	}
	for at := range l {
		if m.Has(at) != l[at] {
			t.Errorf("%s: Has(%d) = %t", what, at, !l[at])
		}
	}
	for _, at := range points(len(l)) {
		if m.Has(at) != l.has(at) {
			t.Errorf("%s: Has(%d) = %t", what, at, !l.has(at))
		}
	}
}

// P3.1: none of the indices is set, and there are no others; sizes that are multiples of 64, and that aren't.
func TestNew(t *testing.T) {
	for _, places := range sizes {
		m := bits.New(places)
		if m == nil {
			t.Fatalf("New(%d) is nil", places)
		}
		wantWhole(t, "New", m, make(model, places))
		if m.Next(0) != -1 || m.Between(0, places) != 0 {
			t.Errorf("New(%d): Next(0) = %d, Between(0, %d) = %d", places, m.Next(0), places, m.Between(0, places))
		}
	}
}

// P3.1: a number of indices that may not be is taken as the nearest one that may be.
func TestNewClamps(t *testing.T) {
	for _, places := range append([]int{5000, 4160, -5}, edges...) {
		want := places
		if places < 0 {
			want = 0
		}
		if places > api.MaxWords {
			want = api.MaxWords
		}
		m := bits.New(places)
		if m == nil {
			t.Fatalf("New(%d) is nil", places)
		}
		wantWhole(t, "New", m, make(model, want))
		if m.Set(want-1) != (want > 0) || m.Set(want) || m.Count() != min(want, 1) {
			t.Errorf("New(%d) has not the indices below %d", places, want)
		}
	}
}

// P3.1: an index is set, by itself, once; then it is cleared, once.
func TestSetAndClear(t *testing.T) {
	for _, places := range []int{1, 63, 64, 65, 100, 128, 129} {
		m, l := bits.New(places), make(model, places)
		for at := range places {
			if m.Clear(at) {
				t.Errorf("of %d: Clear(%d) of one not set is true", places, at)
			}
			if !m.Set(at) || m.Set(at) || m.Set(at) {
				t.Errorf("of %d: Set(%d) was not true just once", places, at)
			}
			l[at] = true
			wantWhole(t, "Set", m, l)
			if !m.Clear(at) || m.Clear(at) || m.Clear(at) {
				t.Errorf("of %d: Clear(%d) was not true just once", places, at)
			}
			l[at] = false
			wantWhole(t, "Clear", m, l)
			if !m.Set(at) {
				t.Errorf("of %d: Set(%d) after Clear is false", places, at)
			}
			m.Clear(at)
		}
	}
}

// P3.1: clearing one leaves the others as they are.
func TestClearOfAll(t *testing.T) {
	m, l := laid(t, 130, patterns["all"])
	for _, at := range []int{0, 63, 64, 127, 128, 129, 1, 70} {
		if !m.Clear(at) {
			t.Errorf("Clear(%d) is false", at)
		}
		l[at] = false
		wantWhole(t, "Clear", m, l)
	}
	for at := range l {
		if m.Clear(at) != l[at] {
			t.Errorf("Clear(%d) = %t", at, !l[at])
		}
	}
	wantWhole(t, "Clear of all", m, make(model, 130))
}

// P3.1, R1: what is no index can't be set, cleared or had, though a word of 64 bits has room for it.
func TestNoIndex(t *testing.T) {
	for _, places := range sizes {
		for _, name := range []string{"none", "all"} {
			m, l := laid(t, places, patterns[name])
			for _, at := range points(places) {
				if at >= 0 && at < places {
					continue
				}
				if m.Set(at) || m.Has(at) || m.Clear(at) {
					t.Errorf("of %d: %d is taken as an index", places, at)
				}
			}
			wantWhole(t, name, m, l)
		}
	}
}

// P3.1: all are cleared, and stay indices.
func TestWipe(t *testing.T) {
	for _, places := range sizes {
		for name, takes := range patterns {
			m, l := laid(t, places, takes)
			m.Wipe()
			wantWhole(t, name+" wiped", m, make(model, places))
			m.Wipe()
			wantWhole(t, name+" wiped twice", m, make(model, places))
			if m.Next(0) != -1 || m.Between(0, places) != 0 {
				t.Errorf("%s of %d, wiped: Next(0) = %d, Between = %d", name, places, m.Next(0), m.Between(0, places))
			}
			for at := range l {
				if m.Set(at) != true {
					t.Errorf("%s of %d, wiped: Set(%d) is false", name, places, at)
				}
			}
		}
	}
}

// P3.2: from every index, from a negative number, from the last index, from beyond it.
func TestNext(t *testing.T) {
	for _, places := range sizes {
		for name, takes := range patterns {
			m, l := laid(t, places, takes)
			want := -1
			for at := places - 1; at >= 0; at-- {
				if l[at] {
					want = at
				}
				if m.Next(at) != want {
					t.Errorf("%s of %d: Next(%d) = %d, want %d", name, places, at, m.Next(at), want)
				}
			}
			for _, at := range points(places) {
				if m.Next(at) != l.next(at) {
					t.Errorf("%s of %d: Next(%d) = %d, want %d", name, places, at, m.Next(at), l.next(at))
				}
			}
			wantWhole(t, name+" after Next", m, l)
		}
	}
}

// P3.2: going on behind the last one found visits each set index once, upwards.
func TestNextVisitsAll(t *testing.T) {
	for name, takes := range patterns {
		m, l := laid(t, api.MaxWords, takes)
		at := m.Next(0)
		for i, set := range l {
			if !set {
				continue
			}
			if at != i {
				t.Fatalf("%s: found %d, want %d", name, at, i)
			}
			at = m.Next(at + 1)
		}
		if at != -1 {
			t.Errorf("%s: found %d behind the last one", name, at)
		}
	}
}

// P3.2: from above to, from at to, and numbers outside the indices among them.
func TestBetween(t *testing.T) {
	for _, places := range []int{0, 1, 63, 64, 65, 100, 128, 129, api.MaxWords - 1, api.MaxWords} {
		for name, takes := range patterns {
			m, l := laid(t, places, takes)
			below := make([]int, places+1)
			for at := range l {
				below[at+1] = below[at]
				if l[at] {
					below[at+1]++
				}
			}
			for _, from := range points(places) {
				for _, to := range points(places) {
					want := 0
					if from < to {
						want = below[min(max(to, 0), places)] - below[min(max(from, 0), places)]
					}
					if n := m.Between(from, to); n != want {
						t.Errorf("%s of %d: Between(%d, %d) = %d, want %d", name, places, from, to, n, want)
					}
				}
			}
			wantWhole(t, name+" after Between", m, l)
		}
	}
}

// P3.2: each pair of a small map, told by going through its indices.
func TestBetweenAllPairs(t *testing.T) {
	for name, takes := range patterns {
		m, l := laid(t, 130, takes)
		for from := -2; from <= 132; from++ {
			for to := -2; to <= 132; to++ {
				if n := m.Between(from, to); n != l.between(from, to) {
					t.Errorf("%s: Between(%d, %d) = %d, want %d", name, from, to, n, l.between(from, to))
				}
			}
		}
	}
}

// The chapter's example.
func TestExample(t *testing.T) {
	m := bits.New(100)
	m.Set(3)
	m.Set(70)
	if m.Next(4) != 70 || m.Next(71) != -1 || m.Between(3, 70) != 1 {
		t.Errorf("Next(4) = %d, Next(71) = %d, Between(3, 70) = %d", m.Next(4), m.Next(71), m.Between(3, 70))
	}
}

// P3.3: a nil Map and a zero Map have no indices, by every call; so has a map of none.
func TestNoIndices(t *testing.T) {
	var none *bits.Map
	var zero bits.Map
	for name, m := range map[string]*bits.Map{"nil": none, "zero": &zero, "New(0)": bits.New(0), "New(-1)": bits.New(-1)} {
		for range 2 {
			if m.Len() != 0 || m.Count() != 0 {
				t.Errorf("%s: Len() = %d, Count() = %d", name, m.Len(), m.Count())
			}
			for _, at := range edges {
				if m.Set(at) || m.Has(at) || m.Clear(at) {
					t.Errorf("%s: %d is taken as an index", name, at)
				}
				if m.Next(at) != -1 {
					t.Errorf("%s: Next(%d) = %d", name, at, m.Next(at))
				}
				for _, to := range edges {
					if n := m.Between(at, to); n != 0 {
						t.Errorf("%s: Between(%d, %d) = %d", name, at, to, n)
					}
				}
			}
			m.Wipe()
		}
	}
}

// R6: maps know nothing of each other.
func TestMapsApart(t *testing.T) {
	a, la := laid(t, 100, patterns["every third"])
	b, lb := laid(t, 100, patterns["every third"])
	a.Set(1)
	a.Clear(3)
	wantWhole(t, "the other map", b, lb)
	a.Wipe()
	wantWhole(t, "the other map", b, lb)
	b.Set(64)
	clear(la)
	wantWhole(t, "the map", a, la)
}

// P3.1, P3.2: many calls one after the other, against the model.
func TestManyCalls(t *testing.T) {
	for _, places := range []int{1, 64, 100, 193} {
		m, l := bits.New(places), make(model, places)
		state := uint32(places)
		for range 4000 {
			state = state*1664525 + 1013904223
			at, to := int(state>>8)%(places+4)-2, int(state>>17)%(places+4)-2
			index := at >= 0 && at < places
			switch state >> 29 {
			case 0, 1, 2:
				if m.Set(at) != (index && !l.has(at)) {
					t.Fatalf("of %d: Set(%d) = %t", places, at, l.has(at))
				}
				if index {
					l[at] = true
				}
			case 3, 4:
				if m.Clear(at) != l.has(at) {
					t.Fatalf("of %d: Clear(%d) = %t", places, at, !l.has(at))
				}
				if index {
					l[at] = false
				}
			case 5:
				if state>>24&31 == 0 {
					m.Wipe()
					clear(l)
				}
			default:
				if m.Has(at) != l.has(at) || m.Next(at) != l.next(at) || m.Between(at, to) != l.between(at, to) {
					t.Fatalf("of %d: at %d and %d: Has %t, Next %d, Between %d", places, at, to, m.Has(at), m.Next(at), m.Between(at, to))
				}
			}
			if m.Count() != l.between(0, places) {
				t.Fatalf("of %d: Count() = %d, want %d", places, m.Count(), l.between(0, places))
			}
		}
	}
}
