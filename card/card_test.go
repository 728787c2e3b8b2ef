package card_test

import (
	"math"
	"slices"
	"testing"

	"gleaning/card"
)

// The chapter's numbers, written out, so that a limit taken wrongly is seen.
const (
	mostWords = 4096
	cardWords = 16
)

// edges are the numbers around which a comparison, a sum or a difference may go wrong.
var edges = []int{
	math.MinInt, math.MinInt + 1, math.MinInt + 15, math.MinInt + 16, math.MinInt + 17, math.MinInt + 4095, math.MinInt + 4096, math.MinInt + 4097,
	math.MinInt / 2, -1 << 32, -1<<32 + 3, math.MinInt32, -4097, -4096, -4095, -65, -64, -17, -16, -15, -2, -1,
	0, 1, 2, 9, 10, 15, 16, 17, 31, 32, 33, 63, 64, 65, 1023, 1024, 1025,
	4079, 4080, 4081, 4095, 4096, 4097, 4111, 4112, 4113, 5000, 1 << 16, math.MaxInt32, 1 << 32, 1<<32 + 3, 1 << 62,
	math.MaxInt / 2, math.MaxInt - 4097, math.MaxInt - 4096, math.MaxInt - 4095, math.MaxInt - 16, math.MaxInt - 15, math.MaxInt - 1, math.MaxInt,
}

// ranges are tables' bounds: of no address, one, fewer than a card has, just as many, one more, several cards, more than 64 of them, all.
var ranges = [][2]int{
	{0, 0}, {10, 10}, {mostWords, mostWords}, {7, 6},
	{0, 1}, {10, 11}, {mostWords - 1, mostWords},
	{0, 15}, {0, 16}, {0, 17}, {5, 20}, {5, 21}, {5, 22}, {5, 36}, {5, 37}, {5, 38},
	{10, 50}, {1, 33}, {1, 34}, {mostWords - 15, mostWords}, {mostWords - 16, mostWords}, {mostWords - 17, mostWords},
	{0, 1023}, {0, 1024}, {0, 1025}, {3, 1026}, {3, 1027}, {3, 1028}, {1000, 3000},
	{1, mostWords}, {0, mostWords - 1}, {0, mostWords},
}

// part is a card as the chapter words it: consecutive addresses.
type part struct {
	from, to int
	dirty    bool
}

// model is a table as the chapter words it: cards one behind the other.
type model []part

func modelOf(from, to int) model {
	var m model
	for at := from; at < to; at += cardWords {
		m = append(m, part{from: at, to: min(at+cardWords, to)})
	}
	return m
}

// of is the place of an address's card; -1: it is none of the table's.
func (m model) of(at int) int {
	return slices.IndexFunc(m, func(p part) bool { return p.from <= at && at < p.to })
}

func (m model) touch(at int) bool {
	i := m.of(at)
	if i < 0 || m[i].dirty {
		return false
	}
	m[i].dirty = true
	return true
}

func (m model) dirty(at int) bool {
	i := m.of(at)
	return i >= 0 && m[i].dirty
}

func (m model) take() (from, to int, ok bool) {
	for i, p := range m {
		if p.dirty {
			m[i].dirty = false
			return p.from, p.to, true
		}
	}
	return 0, 0, false
}

func (m model) all() []int {
	var list []int
	for _, p := range m {
		if p.dirty {
			list = append(list, p.from)
		}
	}
	return list
}

func (m model) wipe() {
	for i := range m {
		m[i].dirty = false
	}
}

// points are the edges, and those of each card: the last one ahead of it, its first two, its middle, its last two, the first behind it.
func (m model) points() []int {
	list := slices.Clone(edges)
	for _, p := range m {
		list = append(list, p.from-1, p.from, p.from+1, p.from+cardWords/2, p.to-2, p.to-1, p.to)
	}
	return list
}

// patterns say of a card's place whether it is touched.
var patterns = map[string]func(i int) bool{
	"none":                    func(i int) bool { return false },
	"all":                     func(i int) bool { return true },
	"the first":               func(i int) bool { return i == 0 },
	"the second":              func(i int) bool { return i == 1 },
	"the last of a whole one": func(i int) bool { return i == mostWords/cardWords-1 },
	"every third":             func(i int) bool { return i%3 == 0 },
	"around 64":               func(i int) bool { return i >= 63 && i <= 65 },
	"those that mix":          func(i int) bool { return (i*2654435761>>7)&5 == 1 },
}

// laid is a table, and its model, some cards of which were touched: each through another one of its addresses.
func laid(t *testing.T, from, to int, takes func(i int) bool) (*card.Table, model) {
	t.Helper()
	c, m := card.New(from, to), modelOf(from, to)
	if c == nil {
		t.Fatalf("New(%d, %d) is nil", from, to)
	}
	for i, p := range m {
		if takes(i) {
			at := p.from + i*7%(p.to-p.from)
			if !c.Touch(at) {
				t.Fatalf("New(%d, %d): Touch(%d) of a clean card is false", from, to, at)
			}
			m.touch(at)
		}
	}
	return c, m
}

// wantTable reads a table by each call that changes nothing.
func wantTable(t *testing.T, what string, c *card.Table, m model) {
	t.Helper()
	if l := c.All(); !slices.Equal(l, m.all()) {
		t.Errorf("%s: All() = %v, want %v", what, l, m.all())
	}
	for _, at := range m.points() {
		if c.Dirty(at) != m.dirty(at) {
			t.Errorf("%s: Dirty(%d) = %t", what, at, !m.dirty(at))
		}
	}
}

func wantTake(t *testing.T, what string, c *card.Table, from, to int, ok bool) {
	t.Helper()
	if a, b, is := c.Take(); a != from || b != to || is != ok {
		t.Errorf("%s: Take() = %d, %d, %t, want %d, %d, %t", what, a, b, is, from, to, ok)
	}
}

// wantTouchable touches each card and takes it again: so it is seen which cards there are, and where they begin and end.
func wantTouchable(t *testing.T, what string, c *card.Table, m model) {
	t.Helper()
	for _, at := range m.points() {
		if is := c.Touch(at); is != m.touch(at) {
			t.Errorf("%s: Touch(%d) = %t", what, at, is)
		}
	}
	wantTable(t, what+", touched", c, m)
	for range len(m) + 1 {
		from, to, ok := m.take()
		wantTake(t, what, c, from, to, ok)
	}
	wantTable(t, what+", taken", c, m)
}

// The chapter's example.
func TestExample(t *testing.T) {
	c := card.New(10, 50)
	if !c.Touch(30) || !slices.Equal(c.All(), []int{26}) {
		t.Errorf("after Touch(30), All() = %v", c.All())
	}
	wantTake(t, "New(10, 50)", c, 26, 42, true)
}

// P7.1: no card is dirty, and there are just the cards of the addresses.
func TestNew(t *testing.T) {
	for _, r := range ranges {
		c, m := card.New(r[0], r[1]), modelOf(r[0], r[1])
		wantTable(t, "New", c, m)
		wantTake(t, "New", c, 0, 0, false)
		wantTouchable(t, "New", c, m)
	}
}

// P7.1, R1: bounds that may not be are taken as the nearest that may be; of no address where the second isn't above the first.
func TestNewClamps(t *testing.T) {
	nearest := func(at int) int {
		if at < 0 {
			return 0
		}
		if at > mostWords {
			return mostWords
		}
		return at
	}
	for _, from := range edges {
		for _, to := range edges {
			c, m := card.New(from, to), modelOf(nearest(from), nearest(to))
			if c == nil {
				t.Fatalf("New(%d, %d) is nil", from, to)
			}
			list := append(edges, from-1, from, from+1, to-1, to, to+1)
			if slices.ContainsFunc(list, c.Dirty) || len(c.All()) != 0 {
				t.Fatalf("New(%d, %d) has dirty cards", from, to)
			}
			for _, at := range list {
				if is := c.Touch(at); is != m.touch(at) {
					t.Fatalf("New(%d, %d): Touch(%d) = %t", from, to, at, is)
				}
				if is := c.Dirty(at); is != m.dirty(at) {
					t.Fatalf("New(%d, %d): Dirty(%d) = %t", from, to, at, is)
				}
			}
			if l := c.All(); !slices.Equal(l, m.all()) {
				t.Fatalf("New(%d, %d): All() = %v, want %v", from, to, l, m.all())
			}
		}
	}
}

// P7.1: some bounds of which the cards are written out.
func TestNewClampsTo(t *testing.T) {
	for _, c := range []struct{ from, to, first, last, end int }{
		{-5, 3, 0, 0, 3}, {math.MinInt, 17, 0, 16, 17}, {-1, 1, 0, 0, 1}, {-16, 16, 0, 0, 16},
		{4090, 5000, 4090, 4090, 4096}, {4080, math.MaxInt, 4080, 4080, 4096}, {4079, 4097, 4079, 4095, 4096}, {4095, 4097, 4095, 4095, 4096},
		{math.MinInt, math.MaxInt, 0, 4080, 4096}, {-1, 4097, 0, 4080, 4096}, {1, math.MaxInt, 1, 4081, 4096},
	} {
		b := card.New(c.from, c.to)
		if b.Touch(c.first-1) || b.Touch(c.end) || !b.Touch(c.first) || b.Touch(c.end-1) != (c.first != c.last) {
			t.Errorf("New(%d, %d) has not the addresses from %d on, below %d", c.from, c.to, c.first, c.end)
		}
		if c.first != c.last {
			wantTake(t, "the first one", b, c.first, c.first+cardWords, true)
		}
		wantTake(t, "the last one", b, c.last, c.end, true)
		wantTake(t, "none", b, 0, 0, false)
	}
}

// P7.1, R1: bounds between which no address is left.
func TestNoAddresses(t *testing.T) {
	for _, from := range edges {
		for _, to := range edges {
			if to > from && to > 0 && from < mostWords {
				continue
			}
			c := card.New(from, to)
			for _, at := range append(edges, from-1, from+1, to-1, to+1) {
				if c.Touch(at) || c.Dirty(at) {
					t.Errorf("New(%d, %d) has the address %d", from, to, at)
				}
			}
			if len(c.All()) != 0 {
				t.Errorf("New(%d, %d): All() = %v", from, to, c.All())
			}
			wantTake(t, "no address", c, 0, 0, false)
			c.Wipe()
		}
	}
}

// P7.1: touching an address touches its card, and no other one; once.
func TestTouch(t *testing.T) {
	for _, r := range ranges {
		if r[1]-r[0] > 100 {
			continue
		}
		for at := r[0]; at < r[1]; at++ {
			c, m := card.New(r[0], r[1]), modelOf(r[0], r[1])
			if !c.Touch(at) || c.Touch(at) || c.Touch(at) {
				t.Errorf("New(%d, %d): Touch(%d) was not true just once", r[0], r[1], at)
			}
			m.touch(at)
			wantTable(t, "Touch", c, m)
			p := m[m.of(at)]
			for other := p.from; other < p.to; other++ {
				if c.Touch(other) || !c.Dirty(other) {
					t.Errorf("New(%d, %d): Touch(%d) after Touch(%d)", r[0], r[1], other, at)
				}
			}
			wantTable(t, "Touch of another one", c, m)
		}
	}
}

// P7.1: of every address of the greatest tables, its card by its two ends.
func TestTouchEach(t *testing.T) {
	for _, from := range []int{0, 1, 15} {
		c := card.New(from, mostWords)
		for at := from; at < mostWords; at++ {
			first := at
			for (first-from)%cardWords != 0 {
				first--
			}
			last := min(first+cardWords, mostWords) - 1
			if !c.Touch(at) || !c.Dirty(first) || !c.Dirty(last) || c.Dirty(first-1) || c.Dirty(last+1) {
				t.Fatalf("from %d: Touch(%d) is not of the card of %d to %d", from, at, first, last)
			}
			wantTake(t, "each", c, first, last+1, true)
		}
	}
}

// P7.1, R1: what is no address of the table touches nothing and is not dirty, whatever cards are dirty.
func TestOutside(t *testing.T) {
	for _, r := range ranges {
		for _, name := range []string{"none", "all", "every third"} {
			c, m := laid(t, r[0], r[1], patterns[name])
			for _, at := range m.points() {
				if m.of(at) >= 0 {
					continue
				}
				if c.Touch(at) || c.Dirty(at) {
					t.Errorf("New(%d, %d), %s dirty: %d is taken as an address", r[0], r[1], name, at)
				}
			}
			wantTable(t, name+", touched outside", c, m)
		}
	}
}

// P7.1: the first addresses of the dirty cards ascend, in whatever order they were touched.
func TestAll(t *testing.T) {
	for _, r := range ranges {
		for name, takes := range patterns {
			c, m := laid(t, r[0], r[1], takes)
			wantTable(t, name, c, m)
			back, b := card.New(r[0], r[1]), modelOf(r[0], r[1])
			for i := len(m) - 1; i >= 0; i-- {
				if takes(i) && (!back.Touch(m[i].to-1) || !b.touch(m[i].to-1)) {
					t.Errorf("%s, downwards: Touch(%d) is false", name, m[i].to-1)
				}
			}
			wantTable(t, name+", downwards", back, m)
		}
	}
	c := card.New(10, 100)
	for _, at := range []int{60, 99, 10, 61, 41, 75} {
		c.Touch(at)
	}
	if l := c.All(); !slices.Equal(l, []int{10, 26, 58, 74, 90}) {
		t.Errorf("All() = %v", l)
	}
}

// R3: the list is the caller's.
func TestAllIsACopy(t *testing.T) {
	c, m := laid(t, 10, 300, patterns["every third"])
	one, two := c.All(), c.All()
	clear(one[:cap(one)])
	if !slices.Equal(two, m.all()) {
		t.Errorf("the other list is %v", two)
	}
	wantTable(t, "after the list was overwritten", c, m)
	c.Wipe()
	c.Touch(200)
	if !slices.Equal(two, m.all()) {
		t.Errorf("the list was changed by the table: %v", two)
	}
}

// P7.2, P7.3: the dirty cards are taken in ascending order, each of them once; then there are none, and no addresses are told.
func TestTake(t *testing.T) {
	for _, r := range ranges {
		for name, takes := range patterns {
			c, m := laid(t, r[0], r[1], takes)
			for range len(m.all()) {
				from, to, _ := m.take()
				wantTake(t, name, c, from, to, true)
				if c.Dirty(from) || c.Dirty(to-1) || !slices.Equal(c.All(), m.all()) {
					t.Errorf("%s: after %d was taken, All() = %v, want %v", name, from, c.All(), m.all())
				}
			}
			wantTake(t, name+", all taken", c, 0, 0, false)
			wantTake(t, name+", all taken", c, 0, 0, false)
			wantTouchable(t, name+", all taken", c, m)
		}
	}
}

// P7.2: the last card is taken with the addresses that it has.
func TestTakeLast(t *testing.T) {
	for words := 1; words <= 3*cardWords; words++ {
		for _, from := range []int{0, 1, 10, mostWords - words} {
			c, to := card.New(from, from+words), from+words
			c.Touch(to - 1)
			last := from
			for last+cardWords < to {
				last += cardWords
			}
			wantTake(t, "the last one", c, last, to, true)
			wantTake(t, "behind the last one", c, 0, 0, false)
		}
	}
}

// P7.3: a card that was taken can be touched and taken again, also ahead of those that are dirty still.
func TestTouchAfterTake(t *testing.T) {
	c := card.New(10, 50)
	for _, at := range []int{49, 11, 30} {
		c.Touch(at)
	}
	wantTake(t, "the first one", c, 10, 26, true)
	if c.Dirty(11) || c.Dirty(10) || c.Dirty(25) || !c.Dirty(26) || !c.Dirty(49) {
		t.Error("Take cleaned another one than the first")
	}
	wantTake(t, "the second one", c, 26, 42, true)
	if !c.Touch(25) || c.Touch(10) || !c.Dirty(11) || c.Dirty(26) {
		t.Error("Touch(25) after its card was taken")
	}
	wantTake(t, "the first one again", c, 10, 26, true)
	wantTake(t, "the last one", c, 42, 50, true)
	wantTake(t, "none", c, 0, 0, false)
	if !c.Touch(42) || !c.Dirty(49) || c.Touch(49) {
		t.Error("Touch(42) after its card was taken")
	}
	wantTake(t, "the last one again", c, 42, 50, true)
}

// P7.1, P7.3: after Wipe no card is dirty, and each can be touched.
func TestWipe(t *testing.T) {
	for _, r := range ranges {
		for name, takes := range patterns {
			c, m := laid(t, r[0], r[1], takes)
			c.Wipe()
			m.wipe()
			wantTable(t, name+", wiped", c, m)
			wantTake(t, name+", wiped", c, 0, 0, false)
			c.Wipe()
			wantTable(t, name+", wiped twice", c, m)
			wantTouchable(t, name+", wiped", c, m)
		}
	}
}

// P7.3: a dirty card stays dirty while others are touched and taken, and the calls that only tell are made.
func TestStaysDirty(t *testing.T) {
	c := card.New(0, mostWords)
	c.Touch(2000)
	for at := range 2000 {
		c.Touch(at)
		c.Dirty(at)
		c.All()
		if !c.Dirty(2000) || c.Touch(2001) {
			t.Fatalf("the card of 2000 was cleaned at %d", at)
		}
	}
	for from := 0; from < 2000; from += cardWords {
		if !c.Dirty(2000) {
			t.Fatalf("the card of 2000 was cleaned ahead of the one of %d", from)
		}
		wantTake(t, "those below", c, from, from+cardWords, true)
	}
	wantTake(t, "the card of 2000", c, 2000, 2016, true)
	wantTake(t, "none", c, 0, 0, false)
}

// R6: tables know nothing of each other.
func TestTablesApart(t *testing.T) {
	a, ma := laid(t, 10, 300, patterns["every third"])
	b, mb := laid(t, 10, 300, patterns["every third"])
	a.Touch(27)
	a.Take()
	wantTable(t, "the other table", b, mb)
	a.Wipe()
	wantTable(t, "the other table", b, mb)
	b.Touch(299)
	ma.wipe()
	wantTable(t, "the table", a, ma)
	wantTake(t, "the table", a, 0, 0, false)
	wantTake(t, "the other table", b, 10, 26, true)
}

// P7.3, R1: a nil Table has no addresses; neither has a zero one, of which the chapter says nothing.
func TestNoTable(t *testing.T) {
	var none *card.Table
	for name, c := range map[string]*card.Table{"nil": none, "zero": {}} {
		for range 2 {
			for _, at := range edges {
				if c.Touch(at) || c.Dirty(at) {
					t.Errorf("%s: %d is taken as an address", name, at)
				}
			}
			if l := c.All(); len(l) != 0 {
				t.Errorf("%s: All() = %v", name, l)
			}
			wantTake(t, name, c, 0, 0, false)
			c.Wipe()
		}
	}
}

// P7.1 to P7.3: many calls one after the other, against the model.
func TestManyCalls(t *testing.T) {
	for _, r := range [][2]int{{10, 11}, {10, 50}, {5, 21}, {0, 160}, {7, 1100}, {0, mostWords}} {
		c, m := card.New(r[0], r[1]), modelOf(r[0], r[1])
		state := uint32(r[1])
		for range 4000 {
			state = state*1664525 + 1013904223
			at := r[0] - 3 + int(state>>8&0xffff)%(r[1]-r[0]+6)
			switch state >> 29 {
			case 0, 1, 2, 3:
				if is := c.Touch(at); is != m.touch(at) {
					t.Fatalf("New(%d, %d): Touch(%d) = %t", r[0], r[1], at, is)
				}
			case 4, 5:
				from, to, ok := m.take()
				wantTake(t, "many calls", c, from, to, ok)
			case 6:
				if state>>24&31 == 0 {
					c.Wipe()
					m.wipe()
				}
			default:
				if is := c.Dirty(at); is != m.dirty(at) {
					t.Fatalf("New(%d, %d): Dirty(%d) = %t", r[0], r[1], at, is)
				}
			}
			if l := c.All(); !slices.Equal(l, m.all()) {
				t.Fatalf("New(%d, %d): All() = %v, want %v", r[0], r[1], l, m.all())
			}
		}
	}
}
