package queue_test

import (
	"maps"
	"math"
	"slices"
	"testing"

	"gleaning/api"
	"gleaning/queue"
)

// The chapter's number, written out, so that a limit taken wrongly is seen.
const queues = 4

// edges are elements, and numbers of queues, around which a comparison may go wrong.
var edges = []int{
	math.MinInt, math.MinInt + 1, math.MinInt + 2, math.MinInt + 4, math.MinInt / 2, -1 << 32, -1<<32 + 1, math.MinInt32,
	-256, -255, -65, -64, -5, -4, -3, -2, -1, 0, 1, 2, 3, 4, 5, 6, 7, 8, 12, 16, 63, 64, 65, 255, 256, 257, 1<<16 + 1,
	math.MaxInt32, 1 << 32, 1<<32 + 1, 1<<32 + 4, 1 << 62, math.MaxInt / 2, math.MaxInt - 1, math.MaxInt,
}

// entry is an element in its position: it was put into a queue, and may have been polled.
type entry struct {
	queue, x int
	polled   bool
}

// model is a set as the chapter words it: all that was ever put in, in the order of the calls.
type model struct {
	entries []entry
}

func isQueue(number int) bool { return slices.Contains([]int{1, 2, 3, 4}, number) }

func (m *model) was(x int) bool {
	return slices.ContainsFunc(m.entries, func(e entry) bool { return e.x == x })
}

func (m *model) put(queue, x int) (bool, api.Errno) {
	if !isQueue(queue) {
		return false, api.ErrArg
	}
	if m.was(x) {
		return false, api.OK
	}
	m.entries = append(m.entries, entry{queue: queue, x: x})
	return true, api.OK
}

func (m *model) poll(queue int) (int, api.Errno) {
	if !isQueue(queue) {
		return 0, api.ErrArg
	}
	for at, e := range m.entries {
		if e.queue == queue && !e.polled {
			m.entries[at].polled = true
			return e.x, api.OK
		}
	}
	return 0, api.ErrNone
}

// of is the elements of a queue.
func (m *model) of(queue int) []int {
	var list []int
	for _, e := range m.entries {
		if e.queue == queue && !e.polled {
			list = append(list, e.x)
		}
	}
	return list
}

func (m *model) all() []int {
	return slices.Concat(m.of(1), m.of(2), m.of(3), m.of(4))
}

// ever is what counts as ever put in, rising, each once.
func (m *model) ever() []int {
	var list []int
	for _, e := range m.entries {
		list = append(list, e.x)
	}
	slices.Sort(list)
	return slices.Compact(list)
}

func (m *model) rename(name func(x int) int) {
	var left []entry
	for _, e := range m.entries {
		e.x = name(e.x)
		if e.x != 0 || !e.polled {
			left = append(left, e)
		}
	}
	m.entries = left
}

// pair is a set and its model, on which the same calls are made.
type pair struct {
	t     *testing.T
	what  string
	set   *queue.Set
	model *model
}

func pairOf(t *testing.T, what string) pair {
	return pair{t: t, what: what, set: &queue.Set{}, model: &model{}}
}

func (p pair) put(number, x int) {
	p.t.Helper()
	ok, e := p.set.Put(number, x)
	if want, err := p.model.put(number, x); ok != want || e != err {
		p.t.Errorf("%s: Put(%d, %d) = %t, %d, want %t, %d", p.what, number, x, ok, e, want, err)
	}
}

func (p pair) poll(number int) {
	p.t.Helper()
	x, e := p.set.Poll(number)
	if want, err := p.model.poll(number); x != want || e != err {
		p.t.Errorf("%s: Poll(%d) = %d, %d, want %d, %d", p.what, number, x, e, want, err)
	}
}

// rename renames by a function that depends on nothing but its argument. It holds that the function is called once for
// each element that was ever put in, and for nothing else.
func (p pair) rename(name func(x int) int) {
	p.t.Helper()
	var asked []int
	p.set.Rename(func(x int) int {
		asked = append(asked, x)
		return name(x)
	})
	slices.Sort(asked)
	if want := p.model.ever(); !slices.Equal(asked, want) {
		p.t.Errorf("%s: Rename asks for %v, want %v", p.what, asked, want)
	}
	p.model.rename(name)
}

// check reads the set by each call that changes nothing.
func (p pair) check() {
	p.t.Helper()
	if l := p.set.All(); !slices.Equal(l, p.model.all()) {
		p.t.Errorf("%s: All() = %v, want %v", p.what, l, p.model.all())
	}
	for _, number := range edges {
		if n := p.set.Len(number); n != len(p.model.of(number)) {
			p.t.Errorf("%s: Len(%d) = %d, want %d", p.what, number, n, len(p.model.of(number)))
		}
	}
}

// finish reads all that is kept, and so changes the set: by Rename and by Put what was ever put in, by Poll what is in
// the queues, in order.
func (p pair) finish(probes ...int) {
	p.t.Helper()
	p.check()
	for i, x := range probes {
		p.put(i%queues+1, x)
	}
	p.check()
	for number := 1; number <= queues; number++ {
		for range len(p.model.of(number)) + 2 {
			p.poll(number)
		}
	}
	p.check()
	for _, x := range probes {
		p.put(1, x)
	}
	p.rename(func(x int) int { return x })
	p.check()
}

// histories are what sets went through. Between them they have queues that are empty from the beginning, that were
// emptied, with one element and with many; and elements that are in a queue, that were polled, and that are in several
// positions.
var histories = map[string]func(p pair){
	"none": func(p pair) {},
	"one":  func(p pair) { p.put(1, 7) },
	"one, polled": func(p pair) {
		p.put(4, 7)
		p.poll(4)
	},
	"zero":  func(p pair) { p.put(2, 0) },
	"edges": func(p pair) { p.putAll(edges) },
	"edges, some polled": func(p pair) {
		p.putAll(edges)
		for number := 1; number <= queues; number++ {
			for range 2 * number {
				p.poll(number)
			}
		}
	},
	"emptied": func(p pair) {
		p.putAll(edges)
		for number := 1; number <= queues; number++ {
			for range edges {
				p.poll(number)
			}
		}
	},
	"the last queue only": func(p pair) {
		for x := 30; x > 0; x-- {
			p.put(queues, x)
		}
		p.poll(queues)
	},
	"in turns": func(p pair) {
		for x := range 40 {
			p.put(x%3+1, x-10)
			if x%4 == 3 {
				p.poll(x%3 + 1)
			}
		}
	},
	"some the same": func(p pair) {
		p.putAll([]int{1, 2, 3, 4, 5, 6, 7, 8, 9, 10, 11, 12})
		p.poll(1)
		p.poll(3)
		p.rename(func(x int) int { return x / 3 })
		p.put(3, 20)
	},
}

// putAll puts elements into the queues by turns.
func (p pair) putAll(list []int) {
	p.t.Helper()
	for i, x := range list {
		p.put(i%queues+1, x)
	}
}

// each makes a set of every history.
func each(t *testing.T, do func(p pair)) {
	t.Helper()
	for _, name := range slices.Sorted(maps.Keys(histories)) {
		p := pairOf(t, name)
		histories[name](p)
		do(p)
	}
}

// wantNothing holds that a set has no elements, and never had one.
func wantNothing(t *testing.T, what string, s *queue.Set) {
	t.Helper()
	for _, number := range edges {
		if n := s.Len(number); n != 0 {
			t.Errorf("%s: Len(%d) = %d", what, number, n)
		}
	}
	if l := s.All(); len(l) != 0 {
		t.Errorf("%s: All() = %v", what, l)
	}
	s.Rename(nil)
	s.Rename(func(x int) int {
		t.Errorf("%s: Rename asks for %d", what, x)
		return x
	})
}

// names is a function that gives some elements other names and leaves the others alone.
func names(table map[int]int) func(x int) int {
	return func(x int) int {
		if to, ok := table[x]; ok {
			return to
		}
		return x
	}
}

// The chapter's example.
func TestExample(t *testing.T) {
	s := &queue.Set{}
	if ok, e := s.Put(1, 7); !ok || e != api.OK {
		t.Errorf("Put(1, 7) = %t, %d", ok, e)
	}
	if ok, e := s.Put(2, 7); ok || e != api.OK {
		t.Errorf("Put(2, 7) = %t, %d", ok, e)
	}
	if x, e := s.Poll(1); x != 7 || e != api.OK {
		t.Errorf("Poll(1) = %d, %d", x, e)
	}
	if ok, e := s.Put(1, 7); ok || e != api.OK {
		t.Errorf("then Put(1, 7) = %t, %d", ok, e)
	}
}

// P12.1: in the zero value all queues are empty, and nothing was ever put in: any element can be.
func TestZero(t *testing.T) {
	var s queue.Set
	wantNothing(t, "the zero set", &s)
	for number := 1; number <= queues; number++ {
		if x, e := s.Poll(number); x != 0 || e != api.ErrNone {
			t.Errorf("Poll(%d) = %d, %d", number, x, e)
		}
	}
	for _, x := range edges {
		for number := 1; number <= queues; number++ {
			p := pairOf(t, "the zero set")
			p.put(number, x)
			p.finish(edges...)
		}
	}
}

// P12.1, R1, R2: there are the queues 1 to 4 and no other; a call with another number changes nothing, also if its element
// was put in already.
func TestNoQueue(t *testing.T) {
	each(t, func(p pair) {
		for _, number := range edges {
			if isQueue(number) {
				continue
			}
			for _, x := range []int{7, 0, 1, -1, 1000, math.MinInt, math.MaxInt} {
				if ok, e := p.set.Put(number, x); ok || e != api.ErrArg {
					t.Errorf("%s: Put(%d, %d) = %t, %d", p.what, number, x, ok, e)
				}
			}
			if x, e := p.set.Poll(number); x != 0 || e != api.ErrArg {
				t.Errorf("%s: Poll(%d) = %d, %d", p.what, number, x, e)
			}
			if n := p.set.Len(number); n != 0 {
				t.Errorf("%s: Len(%d) = %d", p.what, number, n)
			}
		}
		p.check()
		p.finish(7, 0, 1, -1, 1000, math.MinInt, math.MaxInt)
	})
}

// P12.1: what was ever put into a queue is put into none again, also behind its Poll, and the call changes nothing.
func TestPutTwice(t *testing.T) {
	for _, x := range edges {
		for first := 1; first <= queues; first++ {
			for second := 1; second <= queues; second++ {
				p := pairOf(t, "twice")
				p.put(first, x)
				for range 2 {
					if ok, e := p.set.Put(second, x); ok || e != api.OK {
						t.Errorf("Put(%d, %d) behind Put(%d, %d) = %t, %d", second, x, first, x, ok, e)
					}
					p.check()
				}
				p.poll(first)
				if ok, e := p.set.Put(second, x); ok || e != api.OK {
					t.Errorf("Put(%d, %d) behind Poll = %t, %d", second, x, ok, e)
				}
				p.poll(second)
				p.poll(first)
				p.finish(x, x+1, x-1)
			}
		}
	}
}

// P12.1, R2: whatever a set went through, Put of all elements that were ever put in is false and changes nothing, and any
// other element can be put.
func TestPut(t *testing.T) {
	each(t, func(p pair) {
		for _, x := range p.model.ever() {
			for number := 1; number <= queues; number++ {
				if ok, e := p.set.Put(number, x); ok || e != api.OK {
					t.Errorf("%s: Put(%d, %d) = %t, %d", p.what, number, x, ok, e)
				}
			}
		}
		p.check()
		p.putAll(edges)
		p.check()
		for x := range 100 {
			p.put(2, 10*x)
		}
		p.finish(edges...)
	})
}

// P12.1, P12.3, R2: Poll of a queue that is empty, from the beginning or because it was emptied, tells that there is none
// and changes nothing; what is put in afterwards is polled.
func TestPollOfEmpty(t *testing.T) {
	each(t, func(p pair) {
		for number := 1; number <= queues; number++ {
			for range len(p.model.of(number)) {
				p.poll(number)
			}
			for range 3 {
				if x, e := p.set.Poll(number); x != 0 || e != api.ErrNone {
					t.Errorf("%s: Poll(%d) = %d, %d", p.what, number, x, e)
				}
				p.check()
			}
			p.put(number, 1000+number)
			p.put(number, 2000+number)
			p.poll(number)
			p.check()
		}
		p.finish(edges...)
	})
}

// P12.1: Len counts the elements of one queue, as they come and go.
func TestLen(t *testing.T) {
	for number := 1; number <= queues; number++ {
		p := pairOf(t, "Len")
		for n := range 50 {
			if l := p.set.Len(number); l != n {
				t.Errorf("Len(%d) = %d, want %d", number, l, n)
			}
			p.put(number, n)
			p.check()
		}
		for n := 50; n > 0; n-- {
			if l := p.set.Len(number); l != n {
				t.Errorf("Len(%d) = %d, want %d", number, l, n)
			}
			p.poll(number)
			p.check()
		}
	}
}

// P12.1: All is queue 1's elements, then queue 2's, and so on, each queue's in the order in which they were put, whatever
// the order of the queues was in which they were put.
func TestAll(t *testing.T) {
	s := &queue.Set{}
	for _, c := range []struct{ queue, x int }{{4, 1}, {2, 9}, {4, 0}, {1, 5}, {3, 8}, {2, -3}, {1, 4}, {3, 7}} {
		s.Put(c.queue, c.x)
	}
	if l := s.All(); !slices.Equal(l, []int{5, 4, 9, -3, 8, 7, 1, 0}) {
		t.Errorf("All() = %v", l)
	}
	s.Poll(2)
	s.Poll(4)
	s.Poll(1)
	s.Poll(1)
	if l := s.All(); !slices.Equal(l, []int{-3, 8, 7, 0}) {
		t.Errorf("All() = %v", l)
	}
	each(t, pair.check)
}

// P12.1, R3: what All returns is the caller's own, down to what lies beyond its length.
func TestAllShares(t *testing.T) {
	each(t, func(p pair) {
		for range 2 {
			list, other := p.set.All(), p.set.All()
			for at := range list {
				list[at] = 77
			}
			_ = append(list[:0], 55, 66)
			if !slices.Equal(other, p.model.all()) {
				t.Errorf("%s: two results share memory: %v", p.what, other)
			}
			if whole := list[:cap(list)]; len(whole) > len(list) {
				whole[len(list)] = 99
			}
			p.put(1, 300)
			p.put(4, 301)
			p.check()
		}
		p.finish(77, 55, 66, 99)
	})
}

// P12.3: each queue returns its elements in the order in which they were put, each once, though they are put and polled
// by turns, and into several queues.
func TestInTurns(t *testing.T) {
	for polls := range 5 {
		p := pairOf(t, "in turns")
		x := 0
		for round := range 120 {
			for range round % 7 {
				p.put(x*x%queues+1, 1000-x)
				x++
			}
			for i := range polls {
				p.poll((round+i)%queues + 1)
			}
			p.check()
		}
		p.finish(1000, 999, 998, 0, 1001)
	}
}

// P12.1, P12.3: many elements in one queue, and in all.
func TestMany(t *testing.T) {
	const many = 100000
	s := &queue.Set{}
	for x := range many {
		if ok, e := s.Put(x%queues+1, x); !ok || e != api.OK {
			t.Fatalf("Put of %d = %t, %d", x, ok, e)
		}
	}
	for x := range many {
		if ok, _ := s.Put(1, x); ok {
			t.Fatalf("Put of %d again", x)
		}
	}
	for x := range many / 2 {
		if y, e := s.Poll(x%queues + 1); y != x || e != api.OK {
			t.Fatalf("Poll = %d, %d, want %d", y, e, x)
		}
	}
	s.Rename(func(x int) int { return many - x })
	for x := many / 2; x < many; x++ {
		if y, e := s.Poll(x%queues + 1); y != many-x || e != api.OK {
			t.Fatalf("Poll = %d, %d, want %d", y, e, many-x)
		}
	}
	if ok, _ := s.Put(1, many); ok || len(s.All()) != 0 {
		t.Errorf("Put of the first one's new name = %t", ok)
	}
	if ok, _ := s.Put(1, 0); !ok {
		t.Error("0 can't be put")
	}
}

// run makes calls by their numbers: all calls that there are with two queues and three elements.
func run(p pair, call int) {
	if call < 6 {
		p.put(call/3+1, call%3)
		return
	}
	if call < 8 {
		p.poll(call - 5)
		return
	}
	n := call - 8
	p.rename(names(map[int]int{0: n % 3, 1: n / 3 % 3, 2: n / 9}))
}

// P12.1, P12.2, P12.3: every row of few calls on the zero set, among two queues and three elements, of which one is 0.
func TestEveryRow(t *testing.T) {
	const calls = 8 + 27
	for row := range calls * calls * calls {
		p := pairOf(t, "a row of calls")
		for _, call := range []int{row % calls, row / calls % calls, row / calls / calls} {
			run(p, call)
		}
		p.finish(0, 1, 2)
		if t.Failed() {
			t.Fatalf("in row %d", row)
		}
	}
}

// P12.2: every set that has three elements among two queues, or polled; every two Renames, with what was put in read
// behind them.
func TestEveryRename(t *testing.T) {
	places := []struct {
		queue  int
		polled bool
	}{{1, false}, {2, false}, {1, true}}
	for way := range 27 * 27 * 27 {
		p := pairOf(t, "two Renames")
		for _, polled := range []bool{true, false} {
			for x := range 3 {
				place := places[way/[]int{1, 3, 9}[x]%3]
				if place.polled != polled {
					continue
				}
				p.put(place.queue, x)
				if polled {
					p.poll(place.queue)
				}
			}
		}
		run(p, 8+way/27%27)
		p.check()
		run(p, 8+way/27/27)
		p.finish(0, 1, 2)
		if t.Failed() {
			t.Fatalf("in way %d", way)
		}
	}
}

// P12.2: a nil function changes nothing: nothing is forgotten.
func TestRenameByNil(t *testing.T) {
	each(t, func(p pair) {
		p.set.Rename(nil)
		p.finish(edges...)
	})
}

// P12.2: each element that was ever put in is renamed, whether it is in a queue or was polled, by all kinds of functions;
// the orders and the lengths stay as they were.
func TestRename(t *testing.T) {
	functions := map[string]func(x int) int{
		"the same":   func(x int) int { return x },
		"another":    func(x int) int { return 3*x + 1000 },
		"turned":     func(x int) int { return -x },
		"0":          func(int) int { return 0 },
		"5":          func(int) int { return 5 },
		"the least":  func(int) int { return math.MinInt },
		"the most":   func(int) int { return math.MaxInt },
		"0 for some": func(x int) int { return x * (x & 1) },
		"few":        func(x int) int { return x & 3 },
		"the next":   func(x int) int { return x + 1 },
		"halves":     func(x int) int { return x / 2 },
	}
	for _, first := range slices.Sorted(maps.Keys(functions)) {
		for _, second := range slices.Sorted(maps.Keys(functions)) {
			each(t, func(p pair) {
				p.what += ", " + first + ", " + second
				p.rename(functions[first])
				p.check()
				p.rename(functions[second])
				p.putAll([]int{0, 5, 1, -7, 1021})
				p.rename(functions[first])
				p.finish(edges...)
			})
		}
	}
}

// P12.2: behind Rename the new names count as ever put in, and the old ones don't, of elements in a queue and of polled
// ones.
func TestRenameForgets(t *testing.T) {
	s := &queue.Set{}
	s.Put(1, 7)
	s.Put(2, 8)
	s.Poll(1)
	s.Rename(func(x int) int { return 10 * x })
	for _, x := range []int{70, 80} {
		for number := 1; number <= queues; number++ {
			if ok, e := s.Put(number, x); ok || e != api.OK {
				t.Errorf("Put(%d, %d) = %t, %d", number, x, ok, e)
			}
		}
	}
	for _, x := range []int{7, 8} {
		if ok, e := s.Put(2, x); !ok || e != api.OK {
			t.Errorf("Put(2, %d) = %t, %d", x, ok, e)
		}
	}
	if l := s.All(); !slices.Equal(l, []int{80, 7, 8}) {
		t.Errorf("All() = %v", l)
	}
}

// P12.2: a polled element whose new name is 0 counts as never put in; one that is in a queue is 0 there, and 0 counts as
// put in, as long as it is named so and also behind its Poll.
func TestRenameToZero(t *testing.T) {
	polled := pairOf(t, "polled, then 0")
	polled.put(1, 7)
	polled.poll(1)
	polled.rename(func(int) int { return 0 })
	for _, x := range []int{0, 7} {
		if ok, e := polled.set.Put(3, x); !ok || e != api.OK {
			t.Errorf("Put(3, %d) of what is forgotten = %t, %d", x, ok, e)
		}
	}

	s := &queue.Set{}
	s.Put(1, 7)
	s.Rename(func(int) int { return 0 })
	if l := s.All(); !slices.Equal(l, []int{0}) {
		t.Errorf("All() = %v", l)
	}
	if ok, _ := s.Put(2, 0); ok {
		t.Error("0 is in a queue, and is put in again")
	}
	if ok, _ := s.Put(2, 7); !ok {
		t.Error("7 has another name, and can't be put")
	}
	if x, e := s.Poll(1); x != 0 || e != api.OK {
		t.Errorf("Poll(1) = %d, %d", x, e)
	}
	if ok, _ := s.Put(2, 0); ok {
		t.Error("0 was polled, and is put in again")
	}
	s.Rename(func(x int) int { return x })
	if ok, _ := s.Put(2, 0); !ok {
		t.Error("0 is forgotten, and can't be put")
	}
}

// P12.2: two elements of the same new name count as one, and each stays in its position: both in a queue, the same one or
// another; one polled; both polled.
func TestRenameToTheSame(t *testing.T) {
	for _, same := range []int{0, 1, 3, 7, 8, 99, -1} {
		for _, from := range [][2]int{{1, 2}, {1, 3}, {2, 3}, {4, 5}, {1, 5}, {5, 1}, {4, 1}, {6, 7}, {1, 8}} {
			p := pairOf(t, "the same")
			for _, c := range []struct{ queue, x int }{{3, 6}, {3, 7}, {1, 1}, {1, 2}, {2, 3}, {2, 4}, {4, 5}, {4, 8}} {
				p.put(c.queue, c.x)
			}
			p.poll(3)
			p.poll(3)
			p.rename(names(map[int]int{from[0]: same, from[1]: same}))
			p.check()
			p.put(1, same)
			p.put(1, from[0])
			p.put(2, from[1])
			p.check()
			p.rename(names(map[int]int{same: 50}))
			p.check()
			p.rename(names(map[int]int{50: 0}))
			p.finish(0, 50, same, from[0], from[1])
		}
	}
}

// P12.2: elements take each other's names, and get their own back; one queue's order doesn't follow the names.
func TestRenameThereAndBack(t *testing.T) {
	turn := names(map[int]int{1: 2, 2: 3, 3: 4, 4: 1, 5: 6, 6: 5})
	p := pairOf(t, "there and back")
	p.putAll([]int{1, 2, 3, 4, 5, 6, 7})
	p.put(1, 8)
	p.poll(2)
	before := p.set.All()
	for i := range 4 {
		p.rename(turn)
		p.check()
		if back := slices.Equal(p.set.All(), before); back != (i == 3) {
			t.Errorf("after %d turns, All() = %v", i+1, p.set.All())
		}
	}
	p.finish(1, 2, 3, 4, 5, 6, 7, 8, 9)
}

// P12.2, P12.3: Poll returns the new names in the order in which the elements were put, also if they were renamed between
// two Polls.
func TestPollOfRenamed(t *testing.T) {
	s := &queue.Set{}
	for _, x := range []int{5, 3, 9, 1, 7} {
		s.Put(2, x)
	}
	s.Poll(2)
	s.Rename(func(x int) int { return 100 - x })
	for _, want := range []int{97, 91} {
		if x, e := s.Poll(2); x != want || e != api.OK {
			t.Errorf("Poll(2) = %d, %d, want %d", x, e, want)
		}
	}
	s.Rename(func(x int) int { return -x })
	s.Put(2, 97)
	for _, want := range []int{-99, -93, 97} {
		if x, e := s.Poll(2); x != want || e != api.OK {
			t.Errorf("Poll(2) = %d, %d, want %d", x, e, want)
		}
	}
}

// R6: a function whose results hang on the calls before it gives the same names each time, whatever the order is in which
// the elements are kept.
func TestRenameByCount(t *testing.T) {
	var first []int
	for try := range 50 {
		s := &queue.Set{}
		for x := range 40 {
			s.Put(x%queues+1, x*29%41)
		}
		s.Poll(1)
		count := 0
		s.Rename(func(int) int {
			count++
			return count
		})
		if try == 0 {
			first = s.All()
		}
		if l := s.All(); !slices.Equal(l, first) {
			t.Fatalf("All() = %v, and then %v", first, l)
		}
	}
}

// R1, P12.2: the function may use the set itself: it finds all elements under their old names, and what it puts in keeps
// its own.
func TestRenameThatUsesTheSet(t *testing.T) {
	s := &queue.Set{}
	for _, x := range []int{1, 2, 3} {
		s.Put(1, x)
	}
	s.Rename(func(x int) int {
		if l := s.All(); !slices.Contains(l, x) {
			t.Errorf("All() = %v, without %d", l, x)
		}
		if ok, _ := s.Put(2, x); ok {
			t.Errorf("Put(2, %d) is true before it has another name", x)
		}
		s.Put(2, 0)
		s.Put(3, 100+x)
		s.Put(4, 200)
		if x == 3 {
			s.Poll(1)
			s.Poll(2)
			s.Poll(4)
		}
		return 10 * x
	})
	if l := s.All(); !slices.Equal(l, []int{20, 30, 101, 102, 103}) {
		t.Errorf("All() = %v", l)
	}
	for _, x := range []int{0, 10, 20, 30, 101, 102, 103, 200} {
		if ok, _ := s.Put(1, x); ok {
			t.Errorf("Put(1, %d) is true", x)
		}
	}
	for _, x := range []int{1, 2, 3} {
		if ok, _ := s.Put(1, x); !ok {
			t.Errorf("Put(1, %d) is false", x)
		}
	}
}

// R1: a function that renames the same set by another one.
func TestRenameWithinRename(t *testing.T) {
	s := &queue.Set{}
	s.Put(1, 1)
	s.Put(1, 2)
	s.Poll(1)
	s.Rename(func(x int) int {
		s.Rename(nil)
		s.Rename(func(y int) int { return y })
		return x + 1
	})
	if l := s.All(); !slices.Equal(l, []int{3}) {
		t.Errorf("All() = %v", l)
	}
	if ok, _ := s.Put(2, 2); ok {
		t.Error("Put(2, 2) is true")
	}
	if ok, _ := s.Put(2, 1); !ok {
		t.Error("Put(2, 1) is false")
	}
}

// P12.3, R1: a nil Set has no queues, and no call of it does anything.
func TestNil(t *testing.T) {
	var s *queue.Set
	for range 2 {
		wantNothing(t, "the nil set", s)
		for _, number := range edges {
			for _, x := range []int{0, 1, 7, -1, math.MinInt, math.MaxInt} {
				if ok, e := s.Put(number, x); ok || e != api.ErrArg {
					t.Errorf("Put(%d, %d) = %t, %d", number, x, ok, e)
				}
			}
			if x, e := s.Poll(number); x != 0 || e != api.ErrArg {
				t.Errorf("Poll(%d) = %d, %d", number, x, e)
			}
		}
	}
}

// R6: sets have nothing to do with each other.
func TestNothingKept(t *testing.T) {
	a, b := pairOf(t, "one"), pairOf(t, "another")
	a.putAll(edges)
	b.putAll([]int{7, 0, 3, 9})
	a.poll(1)
	b.check()
	b.rename(func(x int) int { return x + 1 })
	a.check()
	b.poll(2)
	b.put(1, 50)
	a.rename(func(int) int { return 0 })
	a.put(3, 51)
	b.put(3, 51)
	a.finish(edges...)
	b.finish(edges...)
	var fresh queue.Set
	wantNothing(t, "a new set", &fresh)
}
