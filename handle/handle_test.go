package handle_test

import (
	"maps"
	"math"
	"slices"
	"testing"

	"gleaning/api"
	"gleaning/handle"
)

// The chapter's number, written out, so that a limit taken wrongly is seen.
const slots = 64

// edges are the numbers around which a comparison, a sum or a remainder may go wrong; most of them are no handle in most tables.
var edges = []int{
	math.MinInt, math.MinInt + 1, math.MinInt + 2, math.MinInt + 63, math.MinInt + 64, math.MinInt + 65, math.MinInt / 2,
	-1 << 32, -1<<32 + 1, math.MinInt32, -4096, -129, -128, -127, -126, -66, -65, -64, -63, -62, -5, -2, -1,
	0, 1, 2, 3, 62, 63, 64, 65, 66, 127, 128, 129, 130, 191, 192, 193, 194, 4095, 4096, 4097,
	255, 256, 257, 1<<16 + 1, math.MaxInt32, 1 << 32, 1<<32 + 1, 1<<32 + 2, 1<<32 + 64, 1<<32 + 65, 1 << 62, 1<<62 + 1,
	math.MaxInt / 2, math.MaxInt - 65, math.MaxInt - 64, math.MaxInt - 63, math.MaxInt - 62, math.MaxInt - 1, math.MaxInt,
}

// entry is a handle and its value, of a slot.
type entry struct{ slot, handle, value int }

// model is a table as the chapter words it: the handles in the order of their slots, and how often each slot was used.
type model struct {
	entries []entry
	uses    map[int]int
}

func (m *model) of(slot int) int {
	return slices.IndexFunc(m.entries, func(e entry) bool { return e.slot == slot })
}

func (m *model) place(h int) int {
	return slices.IndexFunc(m.entries, func(e entry) bool { return e.handle == h })
}

func (m *model) new(x int) (int, api.Errno) {
	for slot := range slots {
		if m.of(slot) >= 0 {
			continue
		}
		h := slots*m.uses[slot] + slot + 1
		if m.uses == nil {
			m.uses = map[int]int{}
		}
		m.uses[slot]++
		m.entries = append(m.entries, entry{slot, h, x})
		slices.SortFunc(m.entries, func(a, b entry) int { return a.slot - b.slot })
		return h, api.OK
	}
	return 0, api.ErrFull
}

func (m *model) get(h int) (int, api.Errno) {
	if at := m.place(h); at >= 0 {
		return m.entries[at].value, api.OK
	}
	return 0, api.ErrHandle
}

func (m *model) set(h, x int) api.Errno {
	at := m.place(h)
	if at < 0 {
		return api.ErrHandle
	}
	m.entries[at].value = x
	return api.OK
}

func (m *model) drop(h int) api.Errno {
	at := m.place(h)
	if at < 0 {
		return api.ErrHandle
	}
	m.entries = slices.Delete(m.entries, at, at+1)
	return api.OK
}

func (m *model) all() []int {
	var list []int
	for _, e := range m.entries {
		list = append(list, e.handle)
	}
	return list
}

func (m *model) values() []int {
	var list []int
	for _, e := range m.entries {
		list = append(list, e.value)
	}
	return list
}

// points are the edges, and of each slot: its handles so far, the next two that it would have, and what becomes one of
// them if it is cut to fewer bits or loses its sign.
func (m *model) points() []int {
	list := slices.Clone(edges)
	for slot := range slots {
		for use := range m.uses[slot] + 2 {
			h := slots*use + slot + 1
			list = append(list, h, -h, h-slots*(m.uses[slot]+2), h+1<<32, h+math.MinInt)
		}
	}
	return list
}

// pair is a table and its model, on which the same calls are made.
type pair struct {
	t     *testing.T
	what  string
	table *handle.Table
	model *model
}

func pairOf(t *testing.T, what string) pair {
	return pair{t: t, what: what, table: &handle.Table{}, model: &model{}}
}

func (p pair) new(x int) int {
	p.t.Helper()
	h, e := p.table.New(x)
	if want, err := p.model.new(x); h != want || e != err {
		p.t.Errorf("%s: New(%d) = %d, %d, want %d, %d", p.what, x, h, e, want, err)
	}
	return h
}

func (p pair) get(h int) {
	p.t.Helper()
	x, e := p.table.Get(h)
	if want, err := p.model.get(h); x != want || e != err {
		p.t.Errorf("%s: Get(%d) = %d, %d, want %d, %d", p.what, h, x, e, want, err)
	}
}

func (p pair) set(h, x int) {
	p.t.Helper()
	e := p.table.Set(h, x)
	if err := p.model.set(h, x); e != err {
		p.t.Errorf("%s: Set(%d, %d) = %d, want %d", p.what, h, x, e, err)
	}
}

func (p pair) drop(h int) {
	p.t.Helper()
	e := p.table.Drop(h)
	if err := p.model.drop(h); e != err {
		p.t.Errorf("%s: Drop(%d) = %d, want %d", p.what, h, e, err)
	}
}

// check reads the table by each call that changes nothing.
func (p pair) check() {
	p.t.Helper()
	if n := p.table.Len(); n != len(p.model.entries) {
		p.t.Errorf("%s: Len() = %d, want %d", p.what, n, len(p.model.entries))
	}
	if l := p.table.All(); !slices.Equal(l, p.model.all()) {
		p.t.Errorf("%s: All() = %v, want %v", p.what, l, p.model.all())
	}
	for _, h := range p.model.points() {
		p.get(h)
	}
}

// fill makes handles until there is no room, each with a value of its own.
func (p pair) fill() {
	p.t.Helper()
	for len(p.model.entries) < slots {
		p.new(1000 + 7*len(p.model.entries))
	}
}

// histories are what tables went through. Between them they have no handle, one, some with gaps, and as many as there
// may be; of slots that were used never, once, and often.
var histories = map[string]func(p pair){
	"none": func(p pair) {},
	"one":  func(p pair) { p.new(5) },
	"one, in a slot used before": func(p pair) {
		p.drop(p.new(5))
		p.new(6)
	},
	"none any more": func(p pair) {
		p.fill()
		for h := slots; h > 0; h-- {
			p.drop(h)
		}
	},
	"gaps": func(p pair) {
		p.fill()
		for h := 1; h <= slots; h++ {
			if h%3 != 0 {
				p.drop(h)
			}
		}
	},
	"the ends only": func(p pair) {
		p.fill()
		for h := 2; h < slots; h++ {
			p.drop(h)
		}
	},
	"some used again": func(p pair) {
		p.fill()
		for _, h := range []int{40, 2, 64, 1, 33} {
			p.drop(h)
		}
		p.new(-1)
		p.new(-2)
		p.new(-3)
		p.drop(65)
		p.new(-4)
		p.drop(50)
	},
	"one too few": func(p pair) {
		p.fill()
		p.drop(slots)
	},
	"full": func(p pair) { p.fill() },
	"full, of slots used unequally often": func(p pair) {
		p.fill()
		for i := range 150 {
			p.drop(p.model.entries[i*i%slots].handle)
			p.new(i)
		}
	},
}

// each makes a table of every history.
func each(t *testing.T, do func(p pair)) {
	t.Helper()
	for _, name := range slices.Sorted(maps.Keys(histories)) {
		p := pairOf(t, name)
		histories[name](p)
		do(p)
	}
}

// wantNoHandle makes all calls that take a handle, with a number that is none of the table's.
func wantNoHandle(t *testing.T, what string, x *handle.Table, h int) {
	t.Helper()
	if v, e := x.Get(h); v != 0 || e != api.ErrHandle {
		t.Errorf("%s: Get(%d) = %d, %d", what, h, v, e)
	}
	if e := x.Set(h, 99); e != api.ErrHandle {
		t.Errorf("%s: Set(%d, 99) = %d", what, h, e)
	}
	if e := x.Drop(h); e != api.ErrHandle {
		t.Errorf("%s: Drop(%d) = %d", what, h, e)
	}
}

// wantEmpty holds that a table has no handles.
func wantEmpty(t *testing.T, what string, x *handle.Table) {
	t.Helper()
	for _, h := range edges {
		wantNoHandle(t, what, x, h)
	}
	if x.Len() != 0 || len(x.All()) != 0 {
		t.Errorf("%s: %d handles: %v", what, x.Len(), x.All())
	}
	x.Each(nil)
	x.Each(func(v int) int {
		t.Errorf("%s: Each asks for %d", what, v)
		return v
	})
}

// permutations are all orders of some numbers.
func permutations(list []int) [][]int {
	if len(list) == 0 {
		return [][]int{nil}
	}
	var all [][]int
	for i, x := range list {
		for _, rest := range permutations(slices.Delete(slices.Clone(list), i, i+1)) {
			all = append(all, append([]int{x}, rest...))
		}
	}
	return all
}

// The chapter's example.
func TestExample(t *testing.T) {
	x := &handle.Table{}
	for _, want := range []int{1, 2} {
		if h, e := x.New(10 * want); h != want || e != api.OK {
			t.Errorf("New = %d, %d, want %d", h, e, want)
		}
	}
	if e := x.Drop(1); e != api.OK {
		t.Errorf("Drop(1) = %d", e)
	}
	if h, e := x.New(30); h != 65 || e != api.OK {
		t.Errorf("New = %d, %d, want 65", h, e)
	}
	if v, e := x.Get(1); v != 0 || e != api.ErrHandle {
		t.Errorf("Get(1) = %d, %d", v, e)
	}
}

// P8.1: the zero value has no handles, and none is found in it.
func TestZero(t *testing.T) {
	var x handle.Table
	wantEmpty(t, "the zero table", &x)
	if h, e := x.New(3); h != 1 || e != api.OK {
		t.Errorf("New(3) = %d, %d", h, e)
	}
}

// P8.1: with no handle and with any number of them there is a new one, until there are as many as may be.
func TestNew(t *testing.T) {
	p := pairOf(t, "New")
	for i := range slots {
		if h := p.new(100 - i); h != i+1 {
			t.Errorf("New number %d is %d", i+1, h)
		}
		p.check()
	}
	for range 3 {
		if h, e := p.table.New(9); h != 0 || e != api.ErrFull {
			t.Errorf("New of too many = %d, %d", h, e)
		}
		p.check()
	}
}

// P8.1: when there is no room, a Drop of any handle makes room for one, in its slot.
func TestNewAfterFull(t *testing.T) {
	for h := 1; h <= slots; h++ {
		p := pairOf(t, "full")
		p.fill()
		p.new(1)
		p.drop(h)
		if n := p.new(2); n != h+slots {
			t.Errorf("after Drop(%d), New = %d", h, n)
		}
		p.new(3)
		p.check()
	}
}

// P8.1: whatever a table went through, it is filled until there are as many handles as may be, and no further.
func TestFillAgain(t *testing.T) {
	each(t, func(p pair) {
		p.fill()
		p.check()
		p.new(1)
		p.new(2)
		p.check()
	})
}

// P8.1: the least slot that no handle occupies is used, whichever was dropped last.
func TestNewTakesTheLeastSlot(t *testing.T) {
	for _, order := range permutations([]int{1, 2, 17, 63, 64}) {
		p := pairOf(t, "dropped in some order")
		p.fill()
		for _, h := range order {
			p.drop(h)
		}
		for _, want := range []int{65, 66, 81, 127, 128} {
			if h := p.new(want); h != want {
				t.Errorf("after Drops of %v, New = %d, want %d", order, h, want)
			}
		}
		p.check()
	}
}

// P8.1: the same where slots behind were never used, and where they are used by turns.
func TestNewTakesTheLeastSlotOfFew(t *testing.T) {
	p := pairOf(t, "few")
	for range 3 {
		p.new(0)
	}
	p.drop(2)
	p.drop(1)
	for _, want := range []int{65, 66, 4} {
		if h := p.new(want); h != want {
			t.Errorf("New = %d, want %d", h, want)
		}
	}
	p.drop(66)
	p.drop(4)
	p.drop(65)
	for _, want := range []int{129, 130, 68} {
		if h := p.new(want); h != want {
			t.Errorf("New = %d, want %d", h, want)
		}
	}
	if l := p.table.All(); !slices.Equal(l, []int{129, 130, 3, 68}) {
		t.Errorf("All() = %v", l)
	}
	p.check()
}

// P8.1, P8.3: a slot that is used often has another handle each time, and its earlier ones are none any more.
func TestSlotUsedOften(t *testing.T) {
	for _, slot := range []int{0, 1, 31, 62, 63} {
		p := pairOf(t, "often")
		for range slot {
			p.new(-1)
		}
		for use := range 200 {
			want := 64*use + slot + 1
			if h := p.new(use); h != want {
				t.Fatalf("use %d of slot %d: New = %d, want %d", use, slot, h, want)
			}
			if v, e := p.table.Get(want); v != use || e != api.OK {
				t.Errorf("Get(%d) = %d, %d", want, v, e)
			}
			for _, h := range []int{want - 64, want - 128, want + 64, want + 128, want % 64} {
				if use > 0 {
					p.get(h)
					p.set(h, 7)
					p.drop(h)
				}
			}
			p.get(want)
			p.drop(want)
		}
		p.check()
	}
}

// P8.1: a handle stands for any number, through New, Set and Each.
func TestValues(t *testing.T) {
	for _, x := range edges {
		p := pairOf(t, "values")
		h, o := p.new(x), p.new(1)
		p.check()
		p.set(o, x)
		p.check()
		p.set(h, 0)
		p.check()
		p.table.Each(func(int) int { return x })
		for _, n := range []int{h, o} {
			if v, e := p.table.Get(n); v != x || e != api.OK {
				t.Errorf("after Each, Get(%d) = %d, %d, want %d", n, v, e, x)
			}
		}
	}
}

// P8.1: handles may stand for the same number; each is set alone.
func TestSet(t *testing.T) {
	each(t, func(p pair) {
		for _, h := range p.model.all() {
			p.set(h, 4)
		}
		p.check()
		for i, h := range p.model.all() {
			p.set(h, -i)
			p.check()
		}
	})
}

// P8.1, R1, R2: what is no handle is told as such, with no value, and nothing changes.
func TestNoHandle(t *testing.T) {
	each(t, func(p pair) {
		for _, h := range p.model.points() {
			if p.model.place(h) < 0 {
				wantNoHandle(t, p.what, p.table, h)
			}
		}
		p.check()
		p.fill()
		p.check()
	})
}

// P8.1: a handle is dropped once, and alone; its slot has not its value any more.
func TestDrop(t *testing.T) {
	each(t, func(p pair) {
		list := p.model.all()
		for i := range list {
			h := list[(i*29+11)%len(list)]
			p.drop(h)
			p.drop(h)
			if e := p.table.Drop(h); e != api.ErrHandle {
				t.Errorf("%s: Drop(%d) once more = %d", p.what, h, e)
			}
			p.check()
		}
	})
}

// P8.1, P8.3: a handle that was dropped is none also when its slot is used anew; the new one is left alone by it.
func TestDropTwiceBehindNew(t *testing.T) {
	p := pairOf(t, "twice")
	for range 3 {
		p.new(8)
	}
	p.drop(2)
	if h := p.new(9); h != 66 {
		t.Errorf("New = %d", h)
	}
	if p.table.Drop(2) != api.ErrHandle || p.table.Set(2, 1) != api.ErrHandle {
		t.Error("2 is a handle still")
	}
	if v, e := p.table.Get(66); v != 9 || e != api.OK {
		t.Errorf("Get(66) = %d, %d", v, e)
	}
	if l := p.table.All(); !slices.Equal(l, []int{1, 66, 3}) {
		t.Errorf("All() = %v", l)
	}
	p.check()
}

// P8.1: Len and All of all numbers of handles; the order is that of the slots, also where it isn't that of the handles.
func TestAll(t *testing.T) {
	each(t, pair.check)
	x := &handle.Table{}
	for range slots {
		x.New(0)
	}
	x.Drop(1)
	x.Drop(3)
	x.New(0)
	want := []int{65, 2}
	for h := 4; h <= slots; h++ {
		want = append(want, h)
	}
	if l := x.All(); x.Len() != slots-1 || !slices.Equal(l, want) {
		t.Errorf("Len() = %d, All() = %v, want %v", x.Len(), l, want)
	}
}

// R3: the list is the caller's.
func TestAllIsACopy(t *testing.T) {
	each(t, func(p pair) {
		one, two := p.table.All(), p.table.All()
		clear(one[:cap(one)])
		if !slices.Equal(two, p.model.all()) {
			t.Errorf("%s: the other list is %v", p.what, two)
		}
		p.check()
		before := slices.Clone(two)
		for _, h := range before {
			p.drop(h)
		}
		p.fill()
		if !slices.Equal(two, before) {
			t.Errorf("%s: the list was changed by the table: %v", p.what, two)
		}
	})
}

// P8.2: no function, no change.
func TestEachNil(t *testing.T) {
	each(t, func(p pair) {
		p.table.Each(nil)
		p.check()
	})
}

// P8.2: each value is asked for once, in the order of All; what is answered stands in its place.
func TestEach(t *testing.T) {
	changes := map[string]func(x int) int{
		"what was given": func(x int) int { return x },
		"another":        func(x int) int { return 3*x - 50 },
		"always 0":       func(x int) int { return 0 },
		"wrapped round":  func(x int) int { return x + math.MaxInt },
	}
	each(t, func(p pair) {
		for _, name := range slices.Sorted(maps.Keys(changes)) {
			want, given := p.model.values(), []int(nil)
			p.table.Each(func(x int) int {
				given = append(given, x)
				return changes[name](x)
			})
			if !slices.Equal(given, want) {
				t.Errorf("%s: Each of %s asks for %v, want %v", p.what, name, given, want)
			}
			for i, e := range p.model.entries {
				p.model.entries[i].value = changes[name](e.value)
			}
			p.check()
		}
		p.fill()
		p.check()
	})
}

// P8.2: what is answered stands for the handle that was asked for, also where all values are the same.
func TestEachCounts(t *testing.T) {
	each(t, func(p pair) {
		for _, h := range p.model.all() {
			p.set(h, 5)
		}
		count := 0
		p.table.Each(func(x int) int {
			if x != 5 {
				t.Errorf("%s: Each asks for %d", p.what, x)
			}
			count++
			return 10 * count
		})
		for i := range p.model.entries {
			p.model.entries[i].value = 10 * (i + 1)
		}
		p.check()
	})
}

// P8.2, R1: the function may use the table. A value goes to the handle that it was answered for, or nowhere.
func TestEachOfOneThatUsesTheTable(t *testing.T) {
	x := &handle.Table{}
	for i := range 3 {
		x.New(i + 1)
	}
	x.Each(func(v int) int {
		switch v {
		case 1: // its own handle is dropped, and its slot is used anew
			x.Drop(1)
			x.New(100)
		case 2: // the handle behind is dropped, and there is a new one behind that
			x.Drop(3)
			x.Drop(2)
		default:
			t.Errorf("Each asks for %d", v)
		}
		return -v
	})
	if l := x.All(); !slices.Equal(l, []int{65}) {
		t.Errorf("All() = %v", l)
	}
	if v, e := x.Get(65); v != 100 || e != api.OK {
		t.Errorf("Get(65) = %d, %d", v, e)
	}
	if h, _ := x.New(7); h != 66 {
		t.Errorf("New(7) = %d", h)
	}
}

// P8.2, R1: it ends also if the function makes handles as long as there is room, or asks for each handle itself.
func TestEachEnds(t *testing.T) {
	x := &handle.Table{}
	x.New(1)
	x.New(2)
	x.Each(func(v int) int {
		x.New(10 * v)
		x.Each(func(w int) int { return w + 1 })
		return v
	})
	if x.Len() != 4 {
		t.Errorf("Len() = %d", x.Len())
	}
}

// step makes one call after the other that mixes with the count, on handles that are, were, or will be.
func step(p pair, i int) {
	mixed := i * 2654435761 >> 7 & 0xffff
	h := slots*(mixed>>6%5) + mixed%slots + 1
	if all := p.model.all(); len(all) > 0 && mixed&3 != 0 {
		h = all[mixed%len(all)]
	}
	switch mixed >> 3 % 8 {
	case 0, 1, 2, 3:
		p.new(mixed)
	case 4, 5:
		p.drop(h)
	case 6:
		p.set(h, -mixed)
	case 7:
		p.table.Each(func(x int) int { return x ^ mixed })
		for at := range p.model.entries {
			p.model.entries[at].value ^= mixed
		}
	}
}

// P8.1, P8.2: many calls of all sorts.
func TestManyCalls(t *testing.T) {
	p := pairOf(t, "many calls")
	for i := range 3000 {
		step(p, i)
		if l := p.table.All(); p.table.Len() != len(l) || !slices.Equal(l, p.model.all()) {
			t.Fatalf("call %d: Len() = %d, All() = %v, want %v", i, p.table.Len(), l, p.model.all())
		}
		for _, e := range p.model.entries {
			p.get(e.handle)
		}
	}
	p.check()
}

// P8.3: whatever is dropped, and in whatever order, no handle comes twice.
func TestNeverTwice(t *testing.T) {
	x, told := &handle.Table{}, map[int]int{}
	for i := range 5000 {
		h, e := x.New(i)
		if e == api.OK {
			told[h]++
			if told[h] != 1 || h < 1 {
				t.Fatalf("New number %d is %d once more", i, h)
			}
		}
		if all := x.All(); e == api.ErrFull || i%3 == 0 {
			for j := range i%7 + 1 {
				x.Drop(all[(i*31+j*j*17)%len(all)])
			}
		}
	}
	if len(told) < 1000 {
		t.Errorf("only %d handles", len(told))
	}
}

// R6: two tables leave one another as they are, and the same calls have the same results.
func TestTwoTables(t *testing.T) {
	one, two, three := pairOf(t, "one"), pairOf(t, "two"), pairOf(t, "three")
	for i := range 500 {
		step(one, i)
		step(two, 7*i+1)
		step(three, i)
	}
	one.check()
	two.check()
	three.check()
	if slices.Equal(one.table.All(), two.table.All()) || !slices.Equal(one.table.All(), three.table.All()) {
		t.Errorf("All() = %v, %v, %v", one.table.All(), two.table.All(), three.table.All())
	}
}

// P8.3: a nil table has no room and no handles.
func TestNil(t *testing.T) {
	var x *handle.Table
	wantEmpty(t, "nil", x)
	for _, n := range edges {
		if h, e := x.New(n); h != 0 || e != api.ErrFull {
			t.Errorf("New(%d) = %d, %d", n, h, e)
		}
	}
	wantEmpty(t, "nil, after New", x)
}
