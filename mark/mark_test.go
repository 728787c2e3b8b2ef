package mark_test

import (
	"math"
	"slices"
	"testing"

	"gleaning/api"
	"gleaning/bits"
	"gleaning/mark"
)

// strangers are numbers that are indices of no map.
var strangers = []int{
	-1, -2, -64, -65, -api.MaxWords, -1 << 32, 1 - 1<<32, math.MinInt, math.MinInt + 1, math.MinInt / 2,
	api.MaxWords, api.MaxWords + 1, api.MaxWords + 64, 1 << 32, 1<<32 + 1, math.MaxInt32, math.MaxInt / 2, math.MaxInt - 1, math.MaxInt,
}

// sizes end before, at and behind the ends of words of 64 bits.
var sizes = []int{0, 1, 2, 3, 4, 7, 63, 64, 65, 100, 129}

// rooms are those that make a difference where there are so many indices, and the greatest and least.
func rooms(places int) []int {
	return []int{
		math.MinInt, math.MinInt + 1, -1 << 32, -places, -1, 0, 1, 2, 3, 10, places / 2, places - 1, places, places + 1,
		api.MaxWords - 1, api.MaxWords, api.MaxWords + 1, 1 << 32, 1<<32 + 1, math.MaxInt - 1, math.MaxInt,
	}
}

// lead tells where an index leads. A test's lead tells the same each time, unless the test says otherwise.
type lead = func(at int) []int

func upTo(n int) []int {
	list := make([]int, n)
	for i := range list {
		list[i] = i
	}
	return list
}

func turned(list []int) []int {
	list = slices.Clone(list)
	slices.Reverse(list)
	return list
}

// mixer is a row of numbers that look mixed, and are the same each time.
type mixer uint64

func (x *mixer) below(n int) int {
	*x = *x*6364136223846793005 + 1442695040888963407
	return int(*x >> 33 % mixer(n))
}

// mixed leads each index to some others, few of them no indices.
func mixed(places int, seed mixer) lead {
	lists := make([][]int, places)
	for at := range lists {
		for range seed.below(5) {
			lists[at] = append(lists[at], seed.below(places+2)-1)
		}
	}
	return func(at int) []int { return lists[at] }
}

// shapes are ways in which so many indices lead to one another; n is above 0.
func shapes(n int) map[string]lead {
	all, down := upTo(n), turned(upTo(n))
	star := func(hub int, list []int) lead {
		return func(at int) []int {
			if at == hub {
				return list
			}
			return nil
		}
	}
	return map[string]lead{
		"nowhere":              func(at int) []int { return nil },
		"empty lists":          func(at int) []int { return []int{} },
		"itself":               func(at int) []int { return []int{at} },
		"itself, many times":   func(at int) []int { return []int{at, at, at, at, at} },
		"chain":                func(at int) []int { return []int{at + 1} },
		"chain backwards":      func(at int) []int { return []int{at - 1} },
		"chain both ways":      func(at int) []int { return []int{at - 1, at + 1} },
		"chain of every other": func(at int) []int { return []int{at + 2} },
		"ring":                 func(at int) []int { return []int{(at + 1) % n} },
		"ring backwards":       func(at int) []int { return []int{(at + n - 1) % n} },
		"star":                 star(0, all),
		"star from the last":   star(n-1, all),
		"star from the middle": star(n/2, down),
		"star, and back": func(at int) []int {
			if at == 0 {
				return down
			}
			return []int{0, 0}
		},
		"all to all":                 func(at int) []int { return all },
		"all to all, backwards":      func(at int) []int { return down },
		"tree":                       func(at int) []int { return []int{2*at + 1, 2*at + 2} },
		"tree backwards":             func(at int) []int { return []int{2*at + 2, 2*at + 1} },
		"tree upwards":               func(at int) []int { return []int{(at - 1) / 2} },
		"tree from the last":         func(at int) []int { return []int{2*at - n, 2*at - n - 1} },
		"comb":                       comb(n),
		"strangers":                  func(at int) []int { return strangers },
		"strangers around the next":  func(at int) []int { return slices.Concat(strangers, []int{at + 1}, strangers) },
		"strangers beside the ends":  func(at int) []int { return []int{n, -1, n + 1, n + 63, n + 64} },
		"the same one, many times":   func(at int) []int { return []int{n / 2, n / 2, at + 1, n / 2, at + 1, n / 2, at + 1} },
		"mixed":                      mixed(n, 1),
		"mixed, another time":        mixed(n, 2),
		"mixed, and again":           mixed(n, 3),
		"everything below it":        func(at int) []int { return all[:at] },
		"everything above it":        func(at int) []int { return all[at+1:] },
		"the other half":             func(at int) []int { return []int{(at + n/2) % n, n - 1 - at} },
		"the first and the last one": func(at int) []int { return []int{0, n - 1} },
	}
}

// comb leads each index of the lower half to one of the upper half, its tooth, and then to the one below it.
func comb(n int) lead {
	return func(at int) []int {
		if at < n/2 {
			return []int{at + n/2, at - 1}
		}
		return nil
	}
}

// rootsOf are lists of roots where there are so many indices; n is above 0.
func rootsOf(n int) [][]int {
	return [][]int{
		nil, {}, {0}, {n - 1}, {n / 2}, {0, 0}, {n - 1, 0}, {0, n / 2, n - 1, 0, n / 2}, {n / 2, n / 3},
		upTo(n), turned(upTo(n)), slices.Concat(upTo(n), upTo(n)), strangers, {n}, {-1}, {n, n + 1, n + 63},
		slices.Concat(strangers, []int{n - 1}, strangers), {0, n, -1, 0, math.MaxInt, n / 2, math.MinInt},
	}
}

// reached is what the chapter's sentence says is reached: it grows until it lacks nothing.
func reached(places int, edges lead, roots []int) []bool {
	set := make([]bool, places)
	add := func(list []int) bool {
		grown := false
		for _, at := range list {
			if at >= 0 && at < places && !set[at] {
				set[at], grown = true, true
			}
		}
		return grown
	}
	for grown := add(roots); grown; {
		grown = false
		for at := range set {
			grown = set[at] && add(edges(at)) || grown
		}
	}
	return set
}

func count(set []bool) int {
	n := 0
	for _, is := range set {
		if is {
			n++
		}
	}
	return n
}

// indices are those that a bitmap has set.
func indices(m *bits.Map) []int {
	var list []int
	for at := m.Next(0); at >= 0; at = m.Next(at + 1) {
		list = append(list, at)
	}
	return list
}

// reader is an edges that reads along in the chapter: it knows which index may be asked for next, whichever of its
// work list's elements comes first.
type reader struct {
	t       *testing.T
	what    string
	lead    lead
	room    int
	marked  []bool
	work    []int
	lost    bool
	scan    int // the index that the rescan comes to next, or -1: there is none
	rescans int
	calls   []int
}

func read(t *testing.T, what string, places, room int, edges lead, roots []int) *reader {
	r := &reader{
		t: t, what: what, lead: edges, room: max(room, 1),
		marked: make([]bool, places), scan: -1, calls: make([]int, places),
	}
	r.mark(roots)
	return r
}

func (r *reader) mark(list []int) {
	for _, at := range list {
		if at < 0 || at >= len(r.marked) || r.marked[at] {
			continue
		}
		r.marked[at] = true
		if len(r.work) < r.room {
			r.work = append(r.work, at)
		} else {
			r.lost = true
		}
	}
}

// next is the least marked index that is not below another one, or -1.
func (r *reader) next(from int) int {
	for at := from; at < len(r.marked); at++ {
		if r.marked[at] {
			return at
		}
	}
	return -1
}

// turn holds that it is an index's turn.
func (r *reader) turn(at int) {
	r.t.Helper()
	if at < 0 || at >= len(r.marked) || !r.marked[at] {
		r.t.Fatalf("%s: edges(%d), though that is not marked", r.what, at)
	}
	r.calls[at]++
	if r.scan < 0 && len(r.work) == 0 && r.lost {
		r.lost, r.scan = false, r.next(0)
		r.rescans++
	}
	if r.scan >= 0 {
		if at != r.scan {
			r.t.Fatalf("%s: edges(%d), though a rescan has come to %d", r.what, at, r.scan)
		}
		return
	}
	i := slices.Index(r.work, at)
	if i < 0 {
		r.t.Fatalf("%s: edges(%d), though that is not on the work list %v", r.what, at, r.work)
	}
	r.work = slices.Delete(r.work, i, i+1)
}

func (r *reader) edges(at int) []int {
	r.turn(at)
	list := r.lead(at)
	r.mark(list)
	if r.scan >= 0 {
		r.scan = r.next(at + 1)
	}
	return list
}

// end holds that nothing is left to be done, and that no call was left out.
func (r *reader) end(rescans int) {
	r.t.Helper()
	if len(r.work) > 0 || r.lost || r.scan >= 0 {
		r.t.Errorf("%s: there is more to be done: work %v, lost %t, rescan at %d", r.what, r.work, r.lost, r.scan)
	}
	if rescans != r.rescans {
		r.t.Errorf("%s: %d rescans, want %d", r.what, rescans, r.rescans)
	}
	for at, calls := range r.calls {
		if (calls > 0) != r.marked[at] {
			r.t.Errorf("%s: %d calls of edges(%d)", r.what, calls, at)
		}
	}
}

// clamped is how many indices there are.
func clamped(places int) int { return min(max(places, 0), api.MaxWords) }

// wantMap holds that a bitmap is a set.
func wantMap(t *testing.T, what string, m *bits.Map, set []bool) {
	t.Helper()
	if m == nil {
		t.Fatalf("%s: no bitmap", what)
	}
	if m.Len() != len(set) || m.Count() != count(set) {
		t.Fatalf("%s: %d of %d indices are set, want %d of %d", what, m.Count(), m.Len(), count(set), len(set))
	}
	for at, is := range set {
		if m.Has(at) != is {
			t.Fatalf("%s: whether %d is set is %t", what, at, !is)
		}
	}
}

// check holds a call against what must be reached, and reads along.
func check(t *testing.T, what string, places, room int, edges lead, roots []int, set []bool) {
	t.Helper()
	r := read(t, what, len(set), room, edges, roots)
	m, n := mark.Reach(places, room, r.edges, roots...)
	wantMap(t, what, m, set)
	if (room >= len(set) || count(set) == 0) && n != 0 {
		t.Errorf("%s: with a room of %d for %d indices, %d of them reached, there are %d rescans", what, room, len(set), count(set), n)
	}
	if n < 0 || n > count(set) {
		t.Errorf("%s: %d rescans for %d indices", what, n, count(set))
	}
	r.end(n)
}

// The chapter's example.
func TestExample(t *testing.T) {
	edges := func(at int) []int {
		if at == 0 {
			return []int{1, 2, 3, 4, 5, 6, 7, 8, 9}
		}
		return nil
	}
	m, n := mark.Reach(10, 2, edges, 0)
	if m.Count() != 10 || n < 1 {
		t.Errorf("%d are marked, with %d rescans", m.Count(), n)
	}
}

// P14.1: all shapes, of each size, with each room, from each list of roots.
func TestShapes(t *testing.T) {
	for _, n := range sizes {
		for what, edges := range shapes(max(n, 1)) {
			for _, roots := range rootsOf(max(n, 1)) {
				set := reached(n, edges, roots)
				for _, room := range rooms(n) {
					check(t, what, n, room, edges, roots, set)
				}
			}
		}
	}
}

// P14.1: every way in which three indices lead to some of them, from all their roots, which are told upwards and downwards.
func TestThreeIndices(t *testing.T) {
	some := [][]int{{}, {0}, {1}, {2}, {1, 0}, {0, 2}, {2, 1}, {0, 1, 2}}
	for ways := range len(some) * len(some) * len(some) {
		edges := func(at int) []int { return some[ways>>(3*at)&7] }
		for _, roots := range some {
			set := reached(3, edges, roots)
			for room := 0; room <= 4; room++ {
				check(t, "three", 3, room, edges, roots, set)
				check(t, "three, downwards", 3, room, edges, turned(roots), set)
			}
		}
	}
}

// P14.1: many ways that are mixed, with little room.
func TestMixed(t *testing.T) {
	seed := mixer(7)
	for i := range 2000 {
		n := 1 + seed.below(90)
		edges, roots := mixed(n, mixer(i)), []int{seed.below(n), seed.below(n), seed.below(n + 5)}
		set := reached(n, edges, roots)
		for _, room := range []int{1, 2, 3, 1 + seed.below(n), n - 1, n} {
			check(t, "mixed", n, room, edges, roots, set)
		}
	}
}

// P14.1: as many indices as there may be, and numbers of them that are clamped to that.
func TestMostIndices(t *testing.T) {
	const most = api.MaxWords
	for what, edges := range shapes(most) {
		roots := []int{most / 3}
		set := reached(most, edges, roots)
		check(t, what, most, 1, edges, roots, set)
		check(t, what, most+1, most-1, edges, roots, set)
		check(t, what, math.MaxInt, most, edges, roots, set)
	}
}

// P14.1: the number of indices is clamped, and those behind the last one are none.
func TestPlaces(t *testing.T) {
	for _, places := range slices.Concat(strangers, sizes, []int{api.MaxWords - 1, 5000, 4160}) {
		want := clamped(places)
		for _, room := range rooms(want) {
			set := make([]bool, want)
			check(t, "no roots", places, room, nil, nil, set)
			check(t, "no index", places, room, nil, []int{want, -1, want + 1, places + 1}, set)
			if want > 0 {
				set[want-1] = true
				check(t, "the last index", places, room, func(at int) []int { return []int{want, at} }, []int{want - 1, want}, set)
			}
		}
	}
}

// P14.1: without an index nothing is marked, whatever else is passed, and edges is not called.
func TestNoIndices(t *testing.T) {
	edges := func(at int) []int {
		t.Errorf("edges(%d), though there are no indices", at)
		return []int{0}
	}
	for _, places := range []int{0, -1, -64, math.MinInt, math.MinInt + 1} {
		for _, room := range rooms(0) {
			for _, roots := range slices.Concat(rootsOf(1), rootsOf(5)) {
				m, n := mark.Reach(places, room, edges, roots...)
				wantMap(t, "no indices", m, nil)
				if n != 0 || m.Set(0) {
					t.Errorf("Reach(%d, %d): %d rescans, or an index 0", places, room, n)
				}
			}
		}
	}
}

// P14.1: a room below 1 is one of 1.
func TestRoomBelowOne(t *testing.T) {
	for what, edges := range shapes(65) {
		for _, roots := range rootsOf(65) {
			m, n := mark.Reach(65, 1, edges, roots...)
			for _, room := range []int{0, -1, -2, -65, -1 << 32, 1 - 1<<32, math.MinInt, math.MinInt + 1} {
				o, k := mark.Reach(65, room, edges, roots...)
				if k != n || !slices.Equal(indices(o), indices(m)) {
					t.Errorf("%s: with a room of %d %v are set, with %d rescans; with 1 %v, with %d", what, room, indices(o), k, indices(m), n)
				}
			}
		}
	}
}

// P14.1: edges that are nil, and ones that lead nowhere, mark the roots alone; also where some of these are lost.
func TestNoEdges(t *testing.T) {
	for _, n := range sizes[1:] {
		for _, roots := range rootsOf(n) {
			want := reached(n, func(int) []int { return nil }, roots)
			for _, room := range rooms(n) {
				m, rescans := mark.Reach(n, room, nil, roots...)
				wantMap(t, "nil edges", m, want)
				o, others := mark.Reach(n, room, func(int) []int { return nil }, roots...)
				wantMap(t, "edges to nil", o, want)
				p, empty := mark.Reach(n, room, func(int) []int { return []int{} }, roots...)
				wantMap(t, "edges to none", p, want)
				if lost := count(want) > max(room, 1); rescans != others || rescans != empty || (rescans > 0) != lost {
					t.Errorf("of %d, room %d, roots %v: %d, %d, %d rescans", n, room, roots, rescans, others, empty)
				}
			}
		}
	}
}

// P14.1: how often something is lost and found again, written out for ways where no order makes a difference.
func TestRescans(t *testing.T) {
	star := func(at int) []int {
		if at == 0 {
			return upTo(10)
		}
		return nil
	}
	for _, x := range []struct {
		what         string
		places, room int
		edges        lead
		roots        []int
		want         int
	}{
		{"nothing is reached", 10, 1, star, nil, 0},
		{"nothing is reached but what is no index", 10, 1, star, []int{10, -1, 11}, 0},
		{"one root", 10, 1, star, []int{3}, 0},
		{"one root, many times", 10, 1, star, []int{3, 3, 3}, 0},
		{"two roots, room for one", 10, 1, star, []int{3, 4}, 1},
		{"two roots, room for both", 10, 2, star, []int{3, 4}, 0},
		{"ten roots, room for nine", 10, 9, nil, upTo(10), 1},
		{"ten roots, room for ten", 10, 10, nil, upTo(10), 0},
		{"star, room for one", 10, 1, star, []int{0}, 1},
		{"star, room for all but one", 10, 8, star, []int{0}, 1},
		{"star, room for all but the hub", 10, 9, star, []int{0}, 0},
		{"star, room for all", 10, 10, star, []int{0}, 0},
		{"chain", 100, 1, func(at int) []int { return []int{at + 1} }, []int{0}, 0},
		{"chain backwards", 100, 1, func(at int) []int { return []int{at - 1} }, []int{99}, 0},
		{"ring", 100, 1, func(at int) []int { return []int{(at + 1) % 100, at} }, []int{70}, 0},
		{"all to all, room for one", 50, 1, func(int) []int { return upTo(50) }, []int{20}, 1},
		{"all to all, room for all but two", 50, 48, func(int) []int { return upTo(50) }, []int{20}, 1},
		{"all to all, room for all but one", 50, 49, func(int) []int { return upTo(50) }, []int{20}, 0},
		{"comb of two teeth", 4, 1, comb(4), []int{1}, 1},
		{"comb of five teeth", 10, 1, comb(10), []int{4}, 4},
		{"comb of five teeth, room for all", 10, 10, comb(10), []int{4}, 0},
		{"comb of 2048 teeth", 4096, 1, comb(4096), []int{2047}, 2047},
	} {
		m, n := mark.Reach(x.places, x.room, x.edges, x.roots...)
		if n != x.want {
			t.Errorf("%s: %d rescans, want %d", x.what, n, x.want)
		}
		edges := x.edges
		if edges == nil {
			edges = func(int) []int { return nil }
		}
		wantMap(t, x.what, m, reached(x.places, edges, x.roots))
	}
}

// P14.1: edges is called only with what was a root or was returned before, and at least once with each of them.
func TestCalls(t *testing.T) {
	for what, edges := range shapes(40) {
		for _, room := range rooms(40) {
			known, calls := map[int]int{5: 1, 39: 1}, map[int]int{}
			m, _ := mark.Reach(40, room, func(at int) []int {
				if known[at] == 0 {
					t.Errorf("%s: edges(%d), which nothing led to", what, at)
				}
				calls[at]++
				for _, to := range edges(at) {
					known[to]++
				}
				return edges(at)
			}, 5, 39)
			if len(calls) != m.Count() {
				t.Errorf("%s: edges was called with %d indices of %d", what, len(calls), m.Count())
			}
			for at := range calls {
				if !m.Has(at) {
					t.Errorf("%s: edges(%d), which is not marked", what, at)
				}
			}
		}
	}
}

// P14.2: neither the room nor the order of the roots nor that of what edges returns makes a difference, nor how often
// something is returned.
func TestOrder(t *testing.T) {
	for what, edges := range shapes(66) {
		down := func(at int) []int { return turned(edges(at)) }
		twice := func(at int) []int { return slices.Concat(down(at), edges(at), edges(at)) }
		for _, roots := range rootsOf(66) {
			m, _ := mark.Reach(66, 66, edges, roots...)
			want := indices(m)
			for _, room := range rooms(66) {
				for _, e := range []lead{edges, down, twice} {
					a, _ := mark.Reach(66, room, e, roots...)
					b, _ := mark.Reach(66, room, e, turned(roots)...)
					c, _ := mark.Reach(66, room, e, slices.Concat(roots, turned(roots), strangers, roots)...)
					for _, o := range []*bits.Map{a, b, c} {
						if !slices.Equal(indices(o), want) {
							t.Fatalf("%s: room %d, roots %v: %v are marked, want %v", what, room, roots, indices(o), want)
						}
					}
				}
			}
		}
	}
}

// P14.2: with an additional root, wherever it stands, nothing that was marked is not, and it is marked if it is an index.
func TestAdditionalRoot(t *testing.T) {
	for what, edges := range shapes(30) {
		for _, roots := range rootsOf(30) {
			for _, room := range []int{1, 2, 7, 30} {
				m, _ := mark.Reach(30, room, edges, roots...)
				for _, more := range slices.Concat(upTo(32), strangers) {
					for _, all := range [][]int{append(slices.Clone(roots), more), append([]int{more}, roots...)} {
						o, _ := mark.Reach(30, room, edges, all...)
						if o.Has(more) != (more >= 0 && more < 30) {
							t.Fatalf("%s: whether the root %d is marked is %t", what, more, o.Has(more))
						}
						for _, at := range indices(m) {
							if !o.Has(at) {
								t.Fatalf("%s: with the roots %v %d is not marked", what, all, at)
							}
						}
					}
				}
			}
		}
	}
}

// P14.2: what is marked leads to nothing else, and is all that is marked if all of it are roots.
func TestNothingElse(t *testing.T) {
	for what, edges := range shapes(100) {
		for _, roots := range rootsOf(100) {
			for _, room := range rooms(100) {
				m, _ := mark.Reach(100, room, edges, roots...)
				for _, at := range indices(m) {
					for _, to := range edges(at) {
						if to >= 0 && to < 100 && !m.Has(to) {
							t.Fatalf("%s: %d leads to %d, which is not marked", what, at, to)
						}
					}
				}
				if o, _ := mark.Reach(100, room, edges, indices(m)...); !slices.Equal(indices(o), indices(m)) {
					t.Fatalf("%s: from %v %v are reached", what, indices(m), indices(o))
				}
			}
		}
	}
}

// longer is a list with more behind its end, which are indices.
func longer(list []int) []int {
	return append(slices.Clone(list), 0, 1, 2, 3, 4, 5, 6, 7)[:len(list)]
}

// R3: the roots, the lists that edges returns, and what is behind their ends, are left as they are, and what is behind
// the ends is not read.
func TestLeavesLists(t *testing.T) {
	for what, edges := range shapes(30) {
		for _, roots := range rootsOf(30) {
			set := reached(30, edges, roots)
			lists := make([][]int, 30)
			for at := range lists {
				lists[at] = longer(edges(at))
			}
			given := longer(roots)
			for _, room := range rooms(30) {
				check(t, what, 30, room, func(at int) []int { return lists[at] }, given, set)
			}
			for at, list := range lists {
				if !slices.Equal(list[:len(list)+8], longer(edges(at))[:len(list)+8]) {
					t.Fatalf("%s: what %d leads to was changed: %v", what, at, list)
				}
			}
			if !slices.Equal(given[:len(given)+8], longer(roots)[:len(roots)+8]) {
				t.Fatalf("%s: the roots were changed: %v", what, given)
			}
		}
	}
}

// R3: a list is not needed any longer when edges is called again, so that it may always be the same memory.
func TestOneListForAll(t *testing.T) {
	for what, edges := range shapes(64) {
		for _, roots := range rootsOf(64) {
			set := reached(64, edges, roots)
			for _, room := range []int{1, 2, 33, 63, 64} {
				list, given := make([]int, 0, 1000), slices.Clone(roots)
				m, _ := mark.Reach(64, room, func(at int) []int {
					clear(list)
					clear(given)
					list = append(list[:0], edges(at)...)
					return list
				}, given...)
				wantMap(t, what, m, set)
			}
		}
	}
}

// R1: edges that tell something else each time are read along; the calls come to an end.
func TestEdgesThatChange(t *testing.T) {
	for i := range 300 {
		seed, n := mixer(i), 1+i%80
		for _, room := range []int{1, 2, 5, n - 1, n} {
			edges := func(at int) []int { return []int{seed.below(n), seed.below(n + 1), seed.below(n) - 1} }
			r := read(t, "edges that change", n, room, edges, []int{i % n})
			m, rescans := mark.Reach(n, room, r.edges, i%n)
			wantMap(t, "edges that change", m, r.marked)
			r.end(rescans)
		}
	}
}

// R6: a call within edges is a call of its own.
func TestReachWithinEdges(t *testing.T) {
	for what, edges := range shapes(20) {
		set := reached(20, edges, []int{10})
		for _, room := range []int{1, 3, 20} {
			within := func(at int) []int {
				check(t, what+", within", 20, room, edges, []int{10}, set)
				return edges(at)
			}
			check(t, what, 20, room, within, []int{10}, set)
		}
	}
}

// R3, R6: each call returns a bitmap of its own, with the same contents, and does not call edges later on.
func TestCallsApart(t *testing.T) {
	for what, edges := range shapes(70) {
		done := false
		watched := func(at int) []int {
			if done {
				t.Errorf("%s: edges(%d) behind the end of the call", what, at)
			}
			return edges(at)
		}
		set := reached(70, edges, []int{0, 69})
		a, n := mark.Reach(70, 2, watched, 0, 69)
		b, k := mark.Reach(70, 2, watched, 0, 69)
		done = true
		if n != k {
			t.Errorf("%s: %d rescans, then %d", what, n, k)
		}
		a.Wipe()
		wantMap(t, what, a, make([]bool, 70))
		wantMap(t, what, b, set)
		for at := range 70 {
			a.Set(at)
		}
		wantMap(t, what, b, set)
		done = false
		c, _ := mark.Reach(70, 2, watched, 0, 69)
		wantMap(t, what, c, set)
	}
}

// R4: roots that are nil and roots that are empty are the same.
func TestEmptyRoots(t *testing.T) {
	for _, roots := range [][]int{nil, {}, make([]int, 0, 7)} {
		m, n := mark.Reach(9, 1, func(at int) []int { return []int{at + 1} }, roots...)
		wantMap(t, "empty roots", m, make([]bool, 9))
		if n != 0 {
			t.Errorf("%d rescans", n)
		}
	}
}
