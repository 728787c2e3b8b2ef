package process_test

import (
	"math"
	"reflect"
	"slices"
	"testing"

	"gleaning/api"
	"gleaning/class"
	"gleaning/graph"
	"gleaning/process"
	"gleaning/strength"
)

// strangers are numbers that are no nodes of most graphs.
var strangers = []int{
	0, -1, -2, -3, 99, 1 << 32, 1<<32 + 1, -1<<32 + 1, math.MinInt, math.MinInt + 1, math.MaxInt - 1, math.MaxInt,
}

// The classes of sample, by their numbers.
const (
	plain = iota + 1
	array
	final
	finalArray
	soft
	weak
	phantom
	soft3
	weak3
	phantom3
)

var sample = []api.Class{
	plain - 1:      {Kind: api.Plain, Refs: 2, Data: 1},
	array - 1:      {Kind: api.Array},
	final - 1:      {Kind: api.Plain, Refs: 2, Data: 1, Final: true},
	finalArray - 1: {Kind: api.Array, Final: true},
	soft - 1:       {Kind: api.Soft, Refs: 1, Data: 2},
	weak - 1:       {Kind: api.Weak, Refs: 1, Data: 2},
	phantom - 1:    {Kind: api.Phantom, Refs: 1, Data: 2},
	soft3 - 1:      {Kind: api.Soft, Refs: 3, Data: 3},
	weak3 - 1:      {Kind: api.Weak, Refs: 3, Data: 3},
	phantom3 - 1:   {Kind: api.Phantom, Refs: 3, Data: 3},
}

func table(t *testing.T) *class.Table {
	t.Helper()
	c, e := class.New(sample...)
	if e != api.OK {
		t.Fatalf("New of the classes: error %d", e)
	}
	return c
}

// isA tells whether a node is of one of some kinds.
func isA(n api.Node, kinds ...int) bool { return slices.Contains(kinds, sample[n.Class-1].Kind) }

func isReference(n api.Node) bool { return isA(n, api.Soft, api.Weak, api.Phantom) }

// of is a node of a class with its first references; the others are 0.
func of(class int, refs ...int) api.Node {
	c := sample[class-1]
	n := api.Node{Class: class, Refs: slices.Clone(refs), Data: make([]int, c.Data), Final: c.Final}
	for len(n.Refs) < c.Refs {
		n.Refs = append(n.Refs, 0)
	}
	return n
}

// over is a node that was finalized.
func over(class int, refs ...int) api.Node {
	n := of(class, refs...)
	n.Final = false
	return n
}

// with is a node with these first numbers.
func with(n api.Node, nums ...int) api.Node {
	copy(n.Data, nums)
	return n
}

// clone shares nothing with a node.
func clone(n api.Node) api.Node {
	n.Refs, n.Data = slices.Clone(n.Refs), slices.Clone(n.Data)
	return n
}

// sameNode holds two nodes against each other; a list that is nil is one without elements.
func sameNode(a, b api.Node) bool {
	return a.Id == b.Id && a.Class == b.Class && a.Final == b.Final &&
		slices.Equal(a.Refs, b.Refs) && slices.Equal(a.Data, b.Data)
}

// sameResult holds two results against each other; a list that is nil is one without elements.
func sameResult(a, b process.Result) bool {
	return slices.Equal(a.Live, b.Live) && slices.Equal(a.Cleared, b.Cleared) && slices.Equal(a.Final, b.Final)
}

// world is a graph, and its nodes as a test states them.
type world struct {
	t     *testing.T
	what  string
	graph *graph.Graph
	nodes map[int]api.Node
}

// build makes a graph of some nodes by their identifiers.
func build(t *testing.T, what string, nodes map[int]api.Node) world {
	t.Helper()
	w := world{t: t, what: what, graph: graph.New(table(t)), nodes: map[int]api.Node{}}
	for id, n := range nodes {
		length := 0
		if isA(n, api.Array) {
			length = len(n.Refs)
		}
		w.ok(w.graph.Add(id, n.Class, length))
	}
	for id, n := range nodes {
		for field, to := range n.Refs {
			w.ok(w.graph.SetRef(id, field, to))
		}
		for field, x := range n.Data {
			w.ok(w.graph.SetNum(id, field, x))
		}
		if !n.Final {
			w.ok(w.graph.Done(id))
		}
		n.Id = id
		w.nodes[id] = clone(n)
	}
	return w
}

// row makes a graph of nodes that are numbered from 1 on.
func row(t *testing.T, what string, nodes ...api.Node) world {
	t.Helper()
	byId := map[int]api.Node{}
	for i, n := range nodes {
		byId[i+1] = n
	}
	return build(t, what, byId)
}

func (w world) ok(e api.Errno) {
	w.t.Helper()
	if e != api.OK {
		w.t.Fatalf("%s: the graph can't be made: error %d", w.what, e)
	}
}

// twin is the same graph once more.
func (w world) twin() world {
	w.t.Helper()
	return build(w.t, w.what, w.nodes)
}

func (w world) ids() []int {
	var list []int
	for id := range w.nodes {
		list = append(list, id)
	}
	slices.Sort(list)
	return list
}

func (w world) has(id int) bool {
	_, is := w.nodes[id]
	return is
}

// keeper makes a function that decides about referents, anew for each Run, since it may count its calls.
type keeper struct {
	what string
	make func() func(n api.Node) bool
	pure bool // what it returns hangs on the node's identifier and numbers alone
}

// by is a keeper that always decides by the same function.
func by(what string, keep func(n api.Node) bool) keeper {
	return keeper{what: what, make: func() func(n api.Node) bool { return keep }, pure: true}
}

// only keeps the referents of some nodes.
func only(ids ...int) keeper {
	return by("only some", func(n api.Node) bool { return slices.Contains(ids, n.Id) })
}

// Keepers that keep everything, and nothing.
func all() keeper  { return by("all", func(api.Node) bool { return true }) }
func none() keeper { return by("none", func(api.Node) bool { return false }) }

// unset is no function at all.
func unset() keeper { return by("nil", nil) }

// turns keeps at each call but every so manieth.
func turns(each int) keeper {
	return keeper{what: "by turns", make: func() func(n api.Node) bool {
		calls := 0
		return func(api.Node) bool {
			calls++
			return calls%each != 0
		}
	}}
}

func keepers() []keeper {
	return []keeper{
		unset(), none(), all(), turns(2), turns(3),
		by("odd", func(n api.Node) bool { return n.Id%2 == 1 }),
		by("stamped", func(n api.Node) bool { return n.Data[1] > 4 }),
		{what: "upwards", make: func() func(n api.Node) bool { return func(n api.Node) bool { return n.Refs[0] > n.Id } }},
	}
}

// reading is what the chapter's steps make of the nodes that a test states, and for which nodes keep is called.
type reading struct {
	world
	process.Result
	asked []int
}

func (r *reading) isLive(id int) bool { return slices.Contains(r.Live, id) }

// enliven makes live what is not, and what it holds.
func (r *reading) enliven(id int) {
	if !r.has(id) || r.isLive(id) {
		return
	}
	r.Live = append(r.Live, id)
	n := r.nodes[id]
	for field, to := range n.Refs {
		if field > 0 || !isReference(n) {
			r.enliven(to)
		}
	}
}

// loses tells whether a node is a live one of some kinds, and its referent a node that is not live.
func (r *reading) loses(id int, kinds ...int) bool {
	n := r.nodes[id]
	return r.isLive(id) && isA(n, kinds...) && r.has(n.Refs[0]) && !r.isLive(n.Refs[0])
}

// soften is step 2: it looks for the node to ask for from the least one on, each time.
func (r *reading) soften(keep func(n api.Node) bool) {
	for {
		at := slices.IndexFunc(r.ids(), func(id int) bool { return r.loses(id, api.Soft) && !slices.Contains(r.asked, id) })
		if at < 0 || keep == nil {
			return
		}
		id := r.ids()[at]
		r.asked = append(r.asked, id)
		if keep(clone(r.nodes[id])) {
			r.enliven(r.nodes[id].Refs[0])
		}
	}
}

// clear is steps 3, 5 and 6.
func (r *reading) clear(kinds ...int) {
	for _, id := range r.ids() {
		if r.loses(id, kinds...) && !slices.Contains(r.Cleared, id) {
			r.Cleared = append(r.Cleared, id)
		}
	}
}

// read reads the chapter.
func (w world) read(keep func(n api.Node) bool, roots []int) reading {
	r := reading{world: w}
	for _, id := range roots {
		r.enliven(id)
	}
	r.soften(keep)
	r.clear(api.Soft, api.Weak)
	for _, id := range w.ids() {
		if w.nodes[id].Final && !r.isLive(id) {
			r.Final = append(r.Final, id)
		}
	}
	for _, id := range r.Final {
		r.enliven(id)
	}
	r.clear(api.Soft, api.Weak)
	r.clear(api.Phantom)
	slices.Sort(r.Live)
	return r
}

// spoil overwrites a list, up to what is behind its end.
func spoil(l []int) {
	for i := range l[:cap(l)] {
		l[:cap(l)][i] = -77
	}
}

// listening passes a keeper's function on. It holds that each node that comes is the one of the graph, spoils the copy,
// and notes for which nodes it is called.
func (w world) listening(keep func(n api.Node) bool, asked *[]int) func(n api.Node) bool {
	if keep == nil {
		return nil
	}
	return func(n api.Node) bool {
		if want := w.nodes[n.Id]; !sameNode(n, want) {
			w.t.Errorf("%s: keep is called with %+v, want %+v", w.what, n, want)
		}
		*asked = append(*asked, n.Id)
		kept := keep(clone(n))
		spoil(n.Refs)
		spoil(n.Data)
		return kept
	}
}

// run makes a Run, and holds it against the reading of the chapter, and the graph behind it against what it was.
func (w world) run(k keeper, roots ...int) process.Result {
	w.t.Helper()
	var asked []int
	want := w.read(k.make(), roots)
	got := process.Run(w.graph, w.listening(k.make(), &asked), roots...)
	if !sameResult(got, want.Result) {
		w.t.Errorf("%s: Run(%s, %v) = %+v, want %+v", w.what, k.what, roots, got, want.Result)
	}
	if !slices.Equal(asked, want.asked) {
		w.t.Errorf("%s: Run(%s, %v) calls keep for %v, want %v", w.what, k.what, roots, asked, want.asked)
	}
	w.same()
	return got
}

// same holds that the graph has the nodes that the test states.
func (w world) same() {
	w.t.Helper()
	if l := w.graph.Ids(); !slices.Equal(l, w.ids()) {
		w.t.Errorf("%s: the nodes are %v, want %v", w.what, l, w.ids())
	}
	for id, want := range w.nodes {
		if n, e := w.graph.Node(id); !sameNode(n, want) || e != api.OK {
			w.t.Errorf("%s: Node(%d) = %+v, %d, want %+v", w.what, id, n, e, want)
		}
	}
}

// apply makes an Apply, and holds the graph behind it against what the test makes of its nodes. It is what Apply returns.
func (w world) apply(r process.Result) int {
	w.t.Helper()
	want := w.applied(r)
	n := process.Apply(w.graph, r)
	if n != want {
		w.t.Errorf("%s: Apply(%+v) = %d, want %d", w.what, r, n, want)
	}
	w.same()
	return n
}

// applied makes the same of the nodes that the test states: how many are removed.
func (w world) applied(r process.Result) int {
	for id, n := range w.nodes {
		if slices.Contains(r.Cleared, id) && isReference(n) {
			n.Refs[0] = 0
		}
		n.Final = n.Final && !slices.Contains(r.Final, id)
		w.nodes[id] = n
	}
	removed := 0
	for _, id := range w.ids() {
		if !slices.Contains(r.Live, id) {
			delete(w.nodes, id)
			removed++
		}
	}
	for _, n := range w.nodes {
		for field, to := range n.Refs {
			if !w.has(to) {
				n.Refs[field] = 0
			}
		}
	}
	return removed
}

// strengthOf is how strongly the roots reach a node of the graph.
func (w world) strengthOf(id int, roots []int) int { return strength.Of(w.graph, id, roots...) }

// promises holds P13.3 of a result of the graph.
func (w world) promises(k keeper, r process.Result, roots []int) {
	w.t.Helper()
	w.onceEach(r)
	for _, id := range r.Cleared {
		n := w.nodes[id]
		s := w.strengthOf(n.Refs[0], roots)
		if !isReference(n) || s == strength.Strong {
			w.t.Errorf("%s: Run(%s, %v) clears %+v, whose referent's strength is %d", w.what, k.what, roots, n, s)
		}
		if s == strength.Soft && k.what == "all" {
			w.t.Errorf("%s: Run(%v) keeps all that is Soft, and clears %+v, whose referent is Soft", w.what, roots, n)
		}
	}
	for _, id := range r.Final {
		if s := w.strengthOf(id, roots); s == strength.Strong || !w.nodes[id].Final {
			w.t.Errorf("%s: Run(%s, %v): %d is to be finalized, and its strength is %d", w.what, k.what, roots, id, s)
		}
	}
	w.nothingLost(k, r, roots)
	w.phantoms(k, r, roots)
}

// onceEach holds that no list of a result has a node twice, and that those of which the chapter says so ascend.
func (w world) onceEach(r process.Result) {
	w.t.Helper()
	for _, list := range [][]int{r.Live, r.Cleared, r.Final} {
		sorted := slices.Sorted(slices.Values(list))
		if len(slices.Compact(sorted)) != len(list) {
			w.t.Errorf("%s: %+v has a node twice", w.what, r)
		}
	}
	if !slices.IsSorted(r.Live) || !slices.IsSorted(r.Final) {
		w.t.Errorf("%s: %+v does not ascend", w.what, r)
	}
}

// nothingLost holds that each reference of a live node leads to a live one, unless it is one to a referent, and cleared.
func (w world) nothingLost(k keeper, r process.Result, roots []int) {
	w.t.Helper()
	for _, id := range r.Live {
		n := w.nodes[id]
		for field, to := range n.Refs {
			cleared := field == 0 && isReference(n) && slices.Contains(r.Cleared, id)
			if to != 0 && !cleared && !slices.Contains(r.Live, to) {
				w.t.Errorf("%s: Run(%s, %v): %d is live, and %d is not, to which it refers", w.what, k.what, roots, id, to)
			}
		}
	}
}

// phantoms holds that the referent of a cleared Phantom node is neither Strong nor Soft nor Weak, once the Soft and Weak
// nodes that are cleared lead to their referents no more.
func (w world) phantoms(k keeper, r process.Result, roots []int) {
	w.t.Helper()
	at := slices.IndexFunc(r.Cleared, func(id int) bool { return isA(w.nodes[id], api.Phantom) })
	if at < 0 {
		return
	}
	left := w.twin()
	for _, id := range r.Cleared[:at] {
		w.ok(left.graph.SetRef(id, 0, 0))
	}
	for _, id := range r.Cleared[at:] {
		to := w.nodes[id].Refs[0]
		s := left.strengthOf(to, roots)
		if !isA(w.nodes[id], api.Phantom) || slices.Contains([]int{strength.Strong, strength.Soft, strength.Weak}, s) {
			w.t.Errorf("%s: Run(%s, %v) clears %d behind Phantom nodes, whose referent's strength is %d", w.what, k.what, roots, id, s)
		}
	}
}

// check runs and applies three times, on a graph of its own. Where keep decides as before, there is nothing to be
// finalized any more in the second round, and nothing to be cleared or removed in the third one.
func (w world) check(k keeper, roots ...int) process.Result {
	w.t.Helper()
	w = w.twin()
	first := w.run(k, roots...)
	w.promises(k, first, roots)
	w.apply(first)
	second := w.run(k, roots...)
	w.promises(k, second, roots)
	w.apply(second)
	third := w.run(k, roots...)
	removed := w.apply(third)
	if k.pure && (len(second.Final) > 0 || len(third.Final) > 0 || len(third.Cleared) > 0 || removed > 0) {
		w.t.Errorf("%s: Run(%s, %v): %+v, then %+v, then %+v, by which %d are removed", w.what, k.what, roots, first, second, third, removed)
	}
	return first
}

// checkAll checks with each keeper.
func (w world) checkAll(roots ...int) {
	w.t.Helper()
	for _, k := range keepers() {
		w.check(k, roots...)
	}
}

// subsets are all lists of some numbers, each ascending.
func subsets(list []int) [][]int {
	sets := [][]int{nil}
	for _, x := range list {
		for _, l := range slices.Clone(sets) {
			sets = append(sets, append(slices.Clone(l), x))
		}
	}
	return sets
}

// example is what Run must tell of a row, written out, so that it does not hang on a function's reading of the chapter.
type example struct {
	what  string
	nodes []api.Node
	keep  keeper
	roots []int
	want  process.Result
	asked []int
}

// result is a list of live, of cleared and of nodes to be finalized.
func result(live, cleared, final []int) process.Result {
	return process.Result{Live: live, Cleared: cleared, Final: final}
}

// list makes the examples easier to read.
func list(ids ...int) []int { return ids }

func (x example) check(t *testing.T) {
	t.Helper()
	w := row(t, x.what, x.nodes...)
	var asked []int
	got := process.Run(w.graph, w.listening(x.keep.make(), &asked), x.roots...)
	if !sameResult(got, x.want) {
		t.Errorf("%s: Run(%s, %v) = %+v, want %+v", x.what, x.keep.what, x.roots, got, x.want)
	}
	if !slices.Equal(asked, x.asked) {
		t.Errorf("%s: Run(%s, %v) calls keep for %v, want %v", x.what, x.keep.what, x.roots, asked, x.asked)
	}
	w.check(x.keep, x.roots...)
	w.checkAll(x.roots...)
}

func checkExamples(t *testing.T, list []example) {
	t.Helper()
	for _, x := range list {
		x.check(t)
	}
}

// The chapter's example.
func TestExample(t *testing.T) {
	checkExamples(t, []example{
		{"the example", []api.Node{of(weak, 2), of(final)}, unset(), list(1), result(list(1, 2), list(1), list(2)), nil},
	})
}

// P13.1, step 1: what is live from the beginning is what the roots hold.
func TestReached(t *testing.T) {
	checkExamples(t, []example{
		{"no roots", []api.Node{of(plain, 2), of(plain)}, all(), nil, result(nil, nil, nil), nil},
		{"alone", []api.Node{of(plain), of(plain)}, all(), list(1), result(list(1), nil, nil), nil},
		{"the second", []api.Node{of(plain), of(plain)}, all(), list(2), result(list(2), nil, nil), nil},
		{"held", []api.Node{of(plain, 2), of(plain, 0, 4), of(plain), of(plain)}, all(), list(1), result(list(1, 2, 4), nil, nil), nil},
		{"ring", []api.Node{of(plain, 3), of(array, 1), of(plain, 0, 2)}, none(), list(3), result(list(1, 2, 3), nil, nil), nil},
		{"two roots", []api.Node{of(plain), of(plain), of(plain, 5), of(plain), of(plain)}, none(), list(3, 1), result(list(1, 3, 5), nil, nil), nil},
		{"second reference of a Soft one", []api.Node{of(soft3, 0, 2), of(plain)}, none(), list(1), result(list(1, 2), nil, nil), nil},
		{"third reference of a Weak one", []api.Node{of(weak3, 0, 0, 2), of(plain)}, none(), list(1), result(list(1, 2), nil, nil), nil},
		{"second of a Phantom one", []api.Node{of(phantom3, 0, 2), of(plain)}, none(), list(1), result(list(1, 2), nil, nil), nil},
		{"held and referred to", []api.Node{of(weak3, 2, 2), of(plain)}, none(), list(1), result(list(1, 2), nil, nil), nil},
	})
}

// P13.1, step 2: which referents of Soft nodes are kept, and for which nodes keep is called, in which order.
func TestSoft(t *testing.T) {
	pair := []api.Node{of(soft, 2), of(plain)}
	threePairs := []api.Node{of(soft, 2), of(plain), of(soft, 4), of(plain), of(soft, 6), of(plain)}
	chain := []api.Node{of(soft, 2), of(soft, 3), of(soft, 4), of(plain)}
	backwards := []api.Node{of(plain), of(soft, 1), of(soft, 2), of(soft, 3)}
	stamps := []api.Node{with(of(soft, 2), 9, 4), of(plain), with(of(soft, 4), 0, 5), of(plain)}
	stamped := by("stamped", func(n api.Node) bool { return n.Data[1] > 4 })
	checkExamples(t, []example{
		{"kept", pair, all(), list(1), result(list(1, 2), nil, nil), list(1)},
		{"not kept", pair, none(), list(1), result(list(1), list(1), nil), list(1)},
		{"nil", pair, unset(), list(1), result(list(1), list(1), nil), nil},
		{"not live", pair, all(), nil, result(nil, nil, nil), nil},
		{"live referent", pair, all(), list(2, 1), result(list(1, 2), nil, nil), nil},
		{"no referent", []api.Node{of(soft), of(plain)}, all(), list(1), result(list(1), nil, nil), nil},
		{"held referent", []api.Node{of(soft3, 2, 0, 3), of(plain), of(plain, 2)}, all(), list(1), result(list(1, 2, 3), nil, nil), nil},
		{"by numbers", stamps, stamped, list(1, 3), result(list(1, 3, 4), list(1), nil), list(1, 3)},
		{"three kept", threePairs, all(), list(5, 3, 1), result(list(1, 2, 3, 4, 5, 6), nil, nil), list(1, 3, 5)},
		{"three not kept", threePairs, none(), list(5, 3, 1), result(list(1, 3, 5), list(1, 3, 5), nil), list(1, 3, 5)},
		{"the first kept", threePairs, only(1), list(1, 3, 5), result(list(1, 2, 3, 5), list(3, 5), nil), list(1, 3, 5)},
		{"the last kept", threePairs, only(5), list(1, 3, 5), result(list(1, 3, 5, 6), list(1, 3), nil), list(1, 3, 5)},
		{"every second kept", threePairs, turns(2), list(1, 3, 5), result(list(1, 2, 3, 5, 6), list(3), nil), list(1, 3, 5)},
		{"chain", chain, all(), list(1), result(list(1, 2, 3, 4), nil, nil), list(1, 2, 3)},
		{"chain, cut", chain, only(1, 3), list(1), result(list(1, 2), list(2), nil), list(1, 2)},
		{"chain, none", chain, none(), list(1), result(list(1), list(1), nil), list(1)},
		{"chain backwards", backwards, all(), list(4), result(list(1, 2, 3, 4), nil, nil), list(4, 3, 2)},
		{"chain backwards, cut", backwards, only(4), list(4), result(list(3, 4), list(3), nil), list(4, 3)},
		{"itself", []api.Node{of(soft, 1)}, all(), list(1), result(list(1), nil, nil), nil},
		{"each other", []api.Node{of(soft, 2), of(soft, 1)}, all(), list(2), result(list(1, 2), nil, nil), list(2)},
		{"each other, not kept", []api.Node{of(soft, 2), of(soft, 1)}, none(), list(2), result(list(2), list(2), nil), list(2)},
		{"each other, both roots", []api.Node{of(soft, 2), of(soft, 1)}, all(), list(1, 2), result(list(1, 2), nil, nil), nil},
	})
}

// P13.1, step 2: whenever nodes have become live, it begins again with the least node; and it comes to none twice.
func TestBeginsAgain(t *testing.T) {
	less := []api.Node{of(soft, 2), of(plain), of(soft, 1), of(plain), of(soft, 4)}
	deeper := []api.Node{of(soft, 7), of(soft, 8), of(plain, 1, 2), of(soft, 3), of(soft, 9), of(plain), of(plain), of(plain), of(plain)}
	refused := []api.Node{of(soft, 2), of(plain), of(soft, 4), of(plain), of(soft, 6), of(plain)}
	meanwhile := []api.Node{of(soft, 2), of(plain, 4), of(soft, 4), of(plain)}
	afterwards := []api.Node{of(soft, 4), of(plain, 4), of(soft, 2), of(plain)}
	same := []api.Node{of(soft, 3), of(soft, 3), of(plain)}
	checkExamples(t, []example{
		{"with a less one", less, all(), list(3, 5), result(list(1, 2, 3, 4, 5), nil, nil), list(3, 1, 5)},
		{"with a less one, refused", less, only(3, 5), list(3, 5), result(list(1, 3, 4, 5), list(1), nil), list(3, 1, 5)},
		{"not when nothing became live", less, none(), list(3, 5), result(list(3, 5), list(3, 5), nil), list(3, 5)},
		{"with two less ones", deeper, all(), list(4, 5), result(list(1, 2, 3, 4, 5, 7, 8, 9), nil, nil), list(4, 1, 2, 5)},
		{"with two less ones, refused", deeper, only(4, 2), list(4, 5), result(list(1, 2, 3, 4, 5, 8), list(1, 5), nil), list(4, 1, 2, 5)},
		{"not with the refused ones", refused, only(5), list(1, 3, 5), result(list(1, 3, 5, 6), list(1, 3), nil), list(1, 3, 5)},
		{"made live meanwhile", meanwhile, all(), list(1, 3), result(list(1, 2, 3, 4), nil, nil), list(1)},
		{"not made live meanwhile", meanwhile, only(3), list(1, 3), result(list(1, 3, 4), list(1), nil), list(1, 3)},
		{"refused, and made live afterwards", afterwards, only(3), list(1, 3), result(list(1, 2, 3, 4), nil, nil), list(1, 3)},
		{"the same referent", same, all(), list(1, 2), result(list(1, 2, 3), nil, nil), list(1)},
		{"the same referent, refused", same, none(), list(1, 2), result(list(1, 2), list(1, 2), nil), list(1, 2)},
		{"the same referent, kept second", same, only(2), list(1, 2), result(list(1, 2, 3), nil, nil), list(1, 2)},
	})
}

// P13.1, step 3: Weak nodes are cleared unless their referents are live.
func TestWeak(t *testing.T) {
	checkExamples(t, []example{
		{"cleared", []api.Node{of(weak, 2), of(plain)}, all(), list(1), result(list(1), list(1), nil), nil},
		{"live referent", []api.Node{of(weak, 2), of(plain)}, all(), list(1, 2), result(list(1, 2), nil, nil), nil},
		{"no referent", []api.Node{of(weak), of(plain)}, all(), list(1), result(list(1), nil, nil), nil},
		{"not live", []api.Node{of(weak, 2), of(plain), of(plain)}, all(), list(3), result(list(3), nil, nil), nil},
		{"itself", []api.Node{of(weak, 1)}, all(), list(1), result(list(1), nil, nil), nil},
		{"each other", []api.Node{of(weak, 2), of(weak, 1)}, all(), list(2), result(list(2), list(2), nil), nil},
		{"each other, both roots", []api.Node{of(weak, 2), of(weak, 1)}, all(), list(2, 1), result(list(1, 2), nil, nil), nil},
		{"several", []api.Node{of(weak, 4), of(weak3, 4), of(weak, 5), of(plain), of(plain)}, all(), list(3, 2, 1),
			result(list(1, 2, 3), list(1, 2, 3), nil), nil},
		{"among Soft ones", []api.Node{of(weak, 5), of(soft, 5), of(weak, 5), of(soft, 5), of(plain)}, none(), list(1, 2, 3, 4),
			result(list(1, 2, 3, 4), list(1, 2, 3, 4), nil), list(2, 4)},
		{"kept by a Soft one", []api.Node{of(weak, 3), of(soft, 3), of(plain)}, all(), list(1, 2), result(list(1, 2, 3), nil, nil), list(2)},
		{"not kept by a Soft one", []api.Node{of(weak, 3), of(soft, 3), of(plain)}, none(), list(1, 2), result(list(1, 2), list(1, 2), nil), list(2)},
		{"made live by a Soft one", []api.Node{of(soft, 2), of(weak, 3), of(plain)}, all(), list(1), result(list(1, 2), list(2), nil), list(1)},
		{"its referent is Soft", []api.Node{of(weak, 2), of(soft, 3), of(plain)}, all(), list(1), result(list(1), list(1), nil), nil},
		{"holds what it does not keep", []api.Node{of(weak3, 2, 3), of(plain), of(plain)}, all(), list(1), result(list(1, 3), list(1), nil), nil},
	})
}

// P13.1, step 4: what is to be finalized, and becomes live with what is reached from it.
func TestFinal(t *testing.T) {
	checkExamples(t, []example{
		{"live", []api.Node{of(final, 2), of(final)}, all(), list(1), result(list(1, 2), nil, nil), nil},
		{"not live", []api.Node{of(final)}, all(), nil, result(list(1), nil, list(1)), nil},
		{"over", []api.Node{over(final), over(finalArray)}, all(), nil, result(nil, nil, nil), nil},
		{"arrays", []api.Node{of(finalArray, 2, 0, 3), of(plain), of(finalArray)}, all(), nil, result(list(1, 2, 3), nil, list(1, 3)), nil},
		{"what it leads to", []api.Node{of(plain), of(final, 3), of(plain, 0, 4), of(plain), of(plain, 2)}, all(), list(1),
			result(list(1, 2, 3, 4), nil, list(2)), nil},
		{"to another one", []api.Node{of(final, 2), of(final)}, all(), nil, result(list(1, 2), nil, list(1, 2)), nil},
		{"to a less one", []api.Node{of(final), of(final, 1)}, all(), nil, result(list(1, 2), nil, list(1, 2)), nil},
		{"to one that is over", []api.Node{of(final, 2), over(final, 3), of(final)}, all(), nil, result(list(1, 2, 3), nil, list(1, 3)), nil},
		{"to a live one", []api.Node{of(final), of(final, 1)}, all(), list(1), result(list(1, 2), nil, list(2)), nil},
		{"itself", []api.Node{of(final, 1, 1)}, all(), nil, result(list(1), nil, list(1)), nil},
		{"ring", []api.Node{of(final, 2), of(final, 3), of(final, 1), of(plain, 1)}, all(), list(4, 0), result(list(1, 2, 3, 4), nil, nil), nil},
		{"ring, not live", []api.Node{of(final, 2), of(final, 3), of(final, 1), of(plain, 1)}, all(), nil, result(list(1, 2, 3), nil, list(1, 2, 3)), nil},
		{"many", []api.Node{of(final), of(plain), of(final), of(final), of(plain), of(final)}, all(), list(4), result(list(1, 3, 4, 6), nil, list(1, 3, 6)), nil},
		{"kept by a Soft one", []api.Node{of(soft, 2), of(final)}, all(), list(1), result(list(1, 2), nil, nil), list(1)},
		{"not kept by a Soft one", []api.Node{of(soft, 2), of(final)}, none(), list(1), result(list(1, 2), list(1), list(2)), list(1)},
		{"held by a referent", []api.Node{of(weak, 2), of(plain, 3), of(final)}, all(), list(1), result(list(1, 3), list(1), list(3)), nil},
		{"held by a kept referent", []api.Node{of(soft, 2), of(plain, 3), of(final)}, all(), list(1), result(list(1, 2, 3), nil, nil), list(1)},
	})
}

// P13.1, steps 3 to 5: what step 4 made live is cleared behind what was cleared before, and keep is not called for it.
func TestClearedLate(t *testing.T) {
	checkExamples(t, []example{
		{"Weak", []api.Node{of(final, 2), of(weak, 3), of(plain)}, all(), nil, result(list(1, 2), list(2), list(1)), nil},
		{"Soft", []api.Node{of(final, 2), of(soft, 3), of(plain)}, all(), nil, result(list(1, 2), list(2), list(1)), nil},
		{"Soft, led to by a kept one", []api.Node{of(soft, 2), of(plain), of(final, 4), of(soft, 5), of(plain)}, all(), list(1),
			result(list(1, 2, 3, 4), list(4), list(3)), list(1)},
		{"behind the others", []api.Node{of(weak, 2), of(plain), of(weak, 4), of(final, 1)}, all(), list(3),
			result(list(1, 3, 4), list(3, 1), list(4)), nil},
		{"behind the others, Soft", []api.Node{of(soft, 2), of(plain), of(soft, 4), of(final, 1)}, none(), list(3),
			result(list(1, 3, 4), list(3, 1), list(4)), list(3)},
		{"in ascending order", []api.Node{of(soft, 5), of(weak, 5), of(soft, 5), of(weak, 5), of(plain), of(finalArray, 4, 3, 1, 2)}, all(), nil,
			result(list(1, 2, 3, 4, 6), list(1, 2, 3, 4), list(6)), nil},
		{"referent live meanwhile", []api.Node{of(final, 2, 3), of(weak, 3), of(plain)}, all(), nil, result(list(1, 2, 3), nil, list(1)), nil},
		{"Soft, referent live meanwhile", []api.Node{of(final, 2, 3), of(soft, 3), of(plain)}, all(), nil, result(list(1, 2, 3), nil, list(1)), nil},
		{"live referent", []api.Node{of(final, 2), of(weak, 3), of(plain)}, all(), list(3), result(list(1, 2, 3), nil, list(1)), nil},
		{"no referent", []api.Node{of(finalArray, 2, 3, 4), of(weak), of(soft), of(phantom)}, all(), nil, result(list(1, 2, 3, 4), nil, list(1)), nil},
		{"to what is to be finalized", []api.Node{of(final, 2), of(weak, 1), of(weak, 1)}, all(), list(3), result(list(1, 2, 3), list(3), list(1)), nil},
		{"not twice", []api.Node{of(weak, 2), of(final, 1), of(weak, 4), of(plain)}, all(), list(1, 3), result(list(1, 2, 3), list(1, 3), list(2)), nil},
	})
}

// P13.1, step 6: Phantom nodes are cleared last, and only if nothing makes their referents live.
func TestPhantom(t *testing.T) {
	checkExamples(t, []example{
		{"cleared", []api.Node{of(phantom, 2), of(plain)}, all(), list(1), result(list(1), list(1), nil), nil},
		{"live referent", []api.Node{of(phantom, 2), of(plain)}, all(), list(1, 2), result(list(1, 2), nil, nil), nil},
		{"no referent", []api.Node{of(phantom), of(plain)}, all(), list(1), result(list(1), nil, nil), nil},
		{"not live", []api.Node{of(phantom, 2), of(plain)}, all(), nil, result(nil, nil, nil), nil},
		{"itself", []api.Node{of(phantom, 1)}, all(), list(1), result(list(1), nil, nil), nil},
		{"each other", []api.Node{of(phantom, 2), of(phantom3, 1)}, all(), list(2), result(list(2), list(2), nil), nil},
		{"kept by a Soft one", []api.Node{of(phantom, 3), of(soft, 3), of(plain)}, all(), list(1, 2), result(list(1, 2, 3), nil, nil), list(2)},
		{"to be finalized", []api.Node{of(phantom, 2), of(final)}, all(), list(1), result(list(1, 2), nil, list(2)), nil},
		{"live by what is to be finalized", []api.Node{of(phantom, 3), of(final, 3), of(plain)}, all(), list(1), result(list(1, 2, 3), nil, list(2)), nil},
		{"over", []api.Node{of(phantom, 2), over(final)}, all(), list(1), result(list(1), list(1), nil), nil},
		{"made live by step 4", []api.Node{of(final, 2), of(phantom, 3), of(plain)}, all(), nil, result(list(1, 2), list(2), list(1)), nil},
		{"behind Weak and Soft ones", []api.Node{of(phantom, 6), of(weak, 6), of(phantom, 6), of(soft, 6), of(phantom, 6), of(plain)}, none(),
			list(5, 4, 3, 2, 1), result(list(1, 2, 3, 4, 5), list(2, 4, 1, 3, 5), nil), list(4)},
		{"behind what step 5 clears", []api.Node{of(phantom, 3), of(weak, 3), of(plain), of(weak, 5), of(final, 2)}, all(), list(1, 4),
			result(list(1, 2, 4, 5), list(4, 2, 1), list(5)), nil},
		{"all of step 6 in ascending order", []api.Node{of(phantom, 3), of(final, 1), of(plain), of(phantom, 3)}, all(), list(4),
			result(list(1, 2, 4), list(1, 4), list(2)), nil},
	})
}

// everything has nodes of all classes, far apart, by all of which something is decided.
func everything(t *testing.T, what string) world {
	t.Helper()
	return build(t, what, map[int]api.Node{
		1:           of(plain, 2, 10),
		2:           of(array, 20, 0, 21, 1),
		7:           of(phantom3, 40, 0, 30),
		10:          with(of(soft, 11), 1, 7),
		11:          of(plain, 12, 0),
		12:          with(of(soft3, 15, 0, 20), 3, 2),
		15:          with(of(soft3, 16, 10), 0, 5),
		16:          of(final, 41, 50),
		20:          with(of(weak, 30), 2, 9),
		21:          of(weak3, 50, 0, 22),
		22:          of(phantom, 41),
		30:          of(final, 31, 51),
		31:          of(weak, 42),
		32:          of(soft, 30),
		40:          of(plain, 41, 42),
		41:          of(array),
		42:          over(final, 43),
		43:          of(finalArray, 40, 44),
		44:          with(of(soft, 45), 4, 8),
		45:          of(plain, 0, 32),
		50:          of(final, 0, 51),
		51:          of(phantom, 52),
		52:          of(plain),
		1 << 32:     of(weak, math.MaxInt),
		math.MaxInt: of(phantom3, 1<<32, 2, 1<<32),
	})
}

// P13.1, P13.2, P13.3: with each set of a few roots, and each keeper.
func TestEverything(t *testing.T) {
	w := everything(t, "everything")
	for _, roots := range subsets([]int{1, 7, 16, 21, 43, 51, 1 << 32, math.MaxInt}) {
		w.checkAll(roots...)
	}
	w.checkAll(w.ids()...)
}

// P13.1: roots that are not nodes are ignored, and so is a root that comes again; the order of roots does not matter.
func TestRoots(t *testing.T) {
	w := everything(t, "roots")
	for _, k := range keepers() {
		for _, roots := range [][]int{nil, {1}, {7, 43}, {50, 21, 1}} {
			want := w.run(k, roots...)
			backwards := slices.Clone(roots)
			slices.Reverse(backwards)
			for _, other := range [][]int{
				backwards, slices.Concat(roots, roots), slices.Concat(strangers[:5], roots),
				slices.Concat(roots, []int{math.MinInt, -1 << 32, -1, 0, 3, 99, 1<<32 + 1, math.MaxInt - 1}, backwards),
			} {
				if r := w.run(k, other...); !sameResult(r, want) {
					t.Errorf("Run(%s, %v) = %+v, Run(%v) = %+v", k.what, other, r, roots, want)
				}
			}
		}
	}
	few := row(t, "strangers", of(weak, 2), of(final), of(soft, 4), of(plain))
	for _, x := range strangers {
		few.checkAll(x)
		few.checkAll(x, 1, x, x, 3, x)
	}
	few.checkAll(strangers...)
}

// R4: a nil slice of roots and an empty one are the same.
func TestEmptyRoots(t *testing.T) {
	w := everything(t, "no roots")
	want := w.run(all())
	for _, roots := range [][]int{nil, {}, make([]int, 0, 9)} {
		if r := w.run(all(), roots...); !sameResult(r, want) {
			t.Errorf("Run(%#v) = %+v, want %+v", roots, r, want)
		}
	}
}

// R1: a graph without nodes, whatever it is of; Apply to it changes nothing.
func TestNoNodes(t *testing.T) {
	empty, _ := class.New()
	emptied := everything(t, "emptied").graph
	emptied.Keep()
	for what, g := range map[string]*graph.Graph{
		"nil": nil, "zero": {}, "new": graph.New(table(t)), "of no table": graph.New(nil), "of no classes": graph.New(empty), "emptied": emptied,
	} {
		w := world{t: t, what: what, graph: g}
		for _, roots := range [][]int{nil, {1}, {1, 2, 1}, strangers} {
			for _, k := range keepers() {
				if r := w.run(k, roots...); len(r.Live)+len(r.Cleared)+len(r.Final) > 0 {
					t.Errorf("%s: Run(%s, %v) = %+v", what, k.what, roots, r)
				}
				w.apply(process.Result{})
				w.apply(result(roots, roots, roots))
				w.apply(result(strangers, list(1), list(1)))
			}
		}
	}
}

// P13.1: a node that was removed is none, and a reference that led to it leads to none.
func TestRemoved(t *testing.T) {
	w := row(t, "removed", of(soft, 4), of(weak, 4), of(phantom3, 4, 5), of(plain), of(final))
	w.apply(result(list(1, 2, 3), nil, nil))
	for _, roots := range subsets(list(1, 2, 3, 4, 5)) {
		w.checkAll(roots...)
	}
	w.ok(w.graph.Add(4, soft, 0))
	w.ok(w.graph.SetRef(4, 0, 1))
	anew := of(soft, 1)
	anew.Id = 4
	w.nodes[4] = anew
	for _, roots := range subsets(list(1, 2, 3, 4, 5)) {
		w.checkAll(roots...)
	}
}

// P13.2: what Apply makes of a result, whatever it is; w.apply holds the whole graph against what it must be then.
func TestApply(t *testing.T) {
	every := everything(t, "apply").ids()
	for _, x := range []struct {
		what    string
		r       process.Result
		removed int
	}{
		{"empty", process.Result{}, len(every)},
		{"empty lists", result([]int{}, []int{}, []int{}), len(every)},
		{"all live", result(every, nil, nil), 0},
		{"all of all", result(every, every, every), 0},
		{"all but Live", result(nil, every, every), len(every)},
		{"strangers", result(strangers[:5], strangers[:5], strangers[:5]), len(every)},
		{"strangers among nodes", result(slices.Concat(strangers, every), strangers, strangers), 0},
		{"no reference classes", result(every, list(1, 2, 11, 16, 30, 40, 43), nil), 0},
		{"reference classes", result(every, list(7, 10, 12, 15, 20, 21, 22, 31), nil), 0},
		{"not all of them", result(every, list(12, 51, 7), nil), 0},
		{"not Final", result(every, nil, list(1, 2, 42, 7, 10, 41)), 0},
		{"Final", result(every, nil, list(16, 43)), 0},
		{"twice", result(list(1, 1, 7, 7, 50, 1), list(7, 7, 12, 7), list(50, 50, 16)), len(every) - 3},
		{"in no order", result(list(51, 10, 30, 1), list(51, 10), list(50, 30)), len(every) - 4},
		{"cleared and not live", result(list(1, 2, 41), list(10, 20, 7), list(16)), len(every) - 3},
		{"lists that meet", result(list(16, 12, 30), list(16, 12, 30), list(16, 12, 30)), len(every) - 3},
	} {
		w := everything(t, x.what)
		if n := w.apply(x.r); n != x.removed {
			t.Errorf("%s: Apply removes %d nodes, want %d", x.what, n, x.removed)
		}
		w.checkAll(1, 7, 43, 51)
		w.checkAll(every...)
	}
}

// P13.2: what a look at the graph tells behind an Apply, written out.
func TestApplied(t *testing.T) {
	w := row(t, "applied", with(of(soft3, 4, 0, 2), 1, 2, 3), of(weak, 4), of(phantom, 5), of(final, 5), of(plain, 0, 4), of(final), of(plain, 1), of(final))
	g := w.graph
	r := process.Run(g, nil, 1, 3, 8)
	if want := result(list(1, 2, 3, 4, 5, 6, 8), list(1, 2), list(4, 6)); !sameResult(r, want) {
		t.Errorf("Run = %+v, want %+v", r, want)
	}
	if n := process.Apply(g, r); n != 1 {
		t.Errorf("Apply = %d", n)
	}
	if l := g.Ids(); !slices.Equal(l, list(1, 2, 3, 4, 5, 6, 8)) {
		t.Errorf("the nodes are %v", l)
	}
	for id, want := range map[int]api.Node{
		1: with(of(soft3, 0, 0, 2), 1, 2, 3), 2: of(weak), 3: of(phantom, 5), 4: over(final, 5), 5: of(plain, 0, 4), 6: over(final), 8: of(final),
	} {
		want.Id = id
		if n, e := g.Node(id); !sameNode(n, want) || e != api.OK {
			t.Errorf("Node(%d) = %+v, %d, want %+v", id, n, e, want)
		}
	}
	r = process.Run(g, nil, 1, 3, 8)
	if want := result(list(1, 2, 3, 8), list(3), nil); !sameResult(r, want) {
		t.Errorf("Run, again, = %+v, want %+v", r, want)
	}
	if n := process.Apply(g, r); n != 3 {
		t.Errorf("Apply, again, = %d", n)
	}
	if to, kind := g.Aim(3); to != 0 || kind != api.Phantom {
		t.Errorf("Aim(3) = %d, %d", to, kind)
	}
}

// P13.3: referents that roots hold as well are never cleared, whatever keep returns.
func TestStrong(t *testing.T) {
	for _, class := range []int{soft, weak, phantom, soft3, weak3, phantom3} {
		w := row(t, "Strong", of(class, 3), of(plain, 0, 3), of(final))
		w.checkAll(1)
		for _, k := range keepers() {
			for _, roots := range [][]int{{1, 2}, {2, 1}, {1, 3}, {1, 2, 3}} {
				if r := w.run(k, roots...); len(r.Cleared) > 0 || len(r.Final) > 0 {
					t.Errorf("a node of class %d: Run(%s, %v) = %+v", class, k.what, roots, r)
				}
			}
		}
	}
}

// R3: the roots and the lists of a result stay as they are, and what is behind their end is neither read nor written.
func TestLeavesItsArguments(t *testing.T) {
	room := []int{30, 1, 30, 50, 0, 7, -3, 2, 99, 1 << 32, 51, 22, 12, 1, 1, 1}
	before := slices.Clone(room)
	for length := range room {
		w := everything(t, "arguments")
		for _, k := range keepers() {
			w.run(k, room[:length]...)
		}
		w.apply(result(room[:length], room[:length/2], room[:length/3]))
		if !slices.Equal(room, before) {
			t.Fatalf("with %d numbers, the arguments and what is behind them became %v", length, room)
		}
	}
}

// R3: what Run returns shares no memory with the graph, with the roots, or with what else is returned.
func TestSharesNothing(t *testing.T) {
	w := everything(t, "shares")
	for _, roots := range [][]int{w.ids(), {1}, {1, 7, 30}, {51, 1 << 32}, {43}} {
		before := slices.Clone(roots)
		want := w.run(all(), roots...)
		lists := func(r process.Result) []*[]int { return []*[]int{&r.Live, &r.Cleared, &r.Final} }
		for at := range lists(want) {
			r := w.run(all(), roots...)
			spoil(*lists(r)[at])
			for other := range lists(want) {
				if other != at && !slices.Equal(*lists(r)[other], *lists(want)[other]) {
					t.Errorf("lists %d and %d of a result share memory: %+v", at, other, r)
				}
			}
		}
		if r := w.run(all(), roots...); !sameResult(r, want) || !slices.Equal(roots, before) {
			t.Errorf("Run(%v) = %+v, it was %+v of %v", roots, r, want, before)
		}
		spoil(roots)
		if r := w.run(all(), before...); !sameResult(r, want) {
			t.Errorf("the roots are part of a result: %+v", want)
		}
	}
}

// P13.1: keep is called with copies, also if it keeps them and changes them later.
func TestCopies(t *testing.T) {
	w := everything(t, "copies")
	var kept []api.Node
	r := process.Run(w.graph, func(n api.Node) bool {
		for _, x := range kept {
			spoil(x.Refs)
			spoil(x.Data)
		}
		if !sameNode(n, w.nodes[n.Id]) {
			t.Errorf("keep is called with %+v, want %+v", n, w.nodes[n.Id])
		}
		n.Refs[0], n.Data[0], n.Final, n.Class = 1, 77, true, plain
		kept = append(kept, n)
		return true
	}, 1, 44)
	if len(kept) < 4 {
		t.Errorf("keep is called %d times", len(kept))
	}
	w.same()
	want := w.read(func(api.Node) bool { return true }, list(1, 44))
	if !sameResult(r, want.Result) {
		t.Errorf("Run = %+v, want %+v", r, want.Result)
	}
}

// R3: a Run changes nothing in the graph, as little by what it asks of it as by what it returns.
func TestLeavesTheGraph(t *testing.T) {
	w := everything(t, "the graph")
	look := func() []any {
		list := []any{w.graph.Ids(), w.graph.Words()}
		for _, id := range w.graph.Ids() {
			n, _ := w.graph.Node(id)
			to, kind := w.graph.Aim(id)
			list = append(list, n, w.graph.Holds(id), to, kind)
		}
		return list
	}
	before := look()
	for _, k := range keepers() {
		for _, roots := range [][]int{nil, {1}, {7, 43}, w.ids()} {
			process.Run(w.graph, k.make(), roots...)
			if !reflect.DeepEqual(look(), before) {
				t.Fatalf("Run(%s, %v) changed the graph", k.what, roots)
			}
		}
	}
}

// R6: the results are those of the graph as it is now, and of no other one.
func TestChanges(t *testing.T) {
	a := row(t, "a", of(weak, 2), of(plain, 3), of(final))
	b := row(t, "b", of(soft, 2), of(final), of(phantom, 2))
	for range 3 {
		a.checkAll(1)
		b.checkAll(1, 3)
	}
	a.ok(a.graph.SetRef(1, 0, 3))
	a.nodes[1].Refs[0] = 3
	a.checkAll(1)
	b.checkAll(1, 3)
	a.ok(a.graph.Done(3))
	a.applied(result(list(1, 2, 3), nil, list(3)))
	a.checkAll(1)
	b.checkAll(1, 3)
}

// R6: no result hangs on the order in which a map is gone through.
func TestSameEachTime(t *testing.T) {
	for range 20 {
		w := everything(t, "each time")
		w.checkAll(1, 51, 22)
		w.checkAll()
	}
}

// R1: a keep that changes the graph itself; chapter 13 says nothing of what is live then. Run ends, though each call adds
// a Soft node that would be asked for next.
func TestKeepThatAdds(t *testing.T) {
	for _, step := range []int{10, -10} {
		w := row(t, "adds", of(soft, 2), of(plain, 0, 3), of(soft, 4), of(plain))
		calls, next := 0, 1000
		r := process.Run(w.graph, func(n api.Node) bool {
			calls++
			if calls > 100 {
				return false
			}
			w.graph.Add(next, soft, 0)
			w.graph.Add(next+1, plain, 0)
			w.graph.SetRef(next, 0, next+1)
			w.graph.SetRef(n.Refs[0], 0, next)
			next += step
			return true
		}, 1)
		if calls != 2 || !slices.Equal(r.Live, list(1, 2, 3, 4)) {
			t.Errorf("keep is called %d times, and Run = %+v", calls, r)
		}
	}
}

// R1: a keep that takes nodes away, or clears them, or makes a Run itself.
func TestKeepThatUsesTheGraph(t *testing.T) {
	for what, change := range map[string]func(w world){
		"removes all":     func(w world) { w.graph.Keep() },
		"removes most":    func(w world) { w.graph.Keep(1, 2, 10) },
		"applies nothing": func(w world) { process.Apply(w.graph, process.Result{}) },
		"applies": func(w world) {
			process.Apply(w.graph, process.Run(w.graph, func(api.Node) bool { return false }, 10))
		},
		"clears": func(w world) {
			for _, id := range w.ids() {
				w.graph.SetRef(id, 0, 0)
			}
		},
	} {
		for _, kept := range []bool{true, false} {
			w := everything(t, what)
			calls := 0
			process.Run(w.graph, func(api.Node) bool {
				calls++
				change(w)
				return kept
			}, w.ids()[:5]...)
			if calls < 1 || calls > 5 {
				t.Errorf("%s: keep is called %d times", what, calls)
			}
		}
	}
	w := everything(t, "runs")
	var inner process.Result
	outer := process.Run(w.graph, func(api.Node) bool {
		inner = process.Run(w.graph, func(api.Node) bool { return true }, 1, 7)
		return true
	}, 1, 7)
	if want := w.run(all(), 1, 7); !sameResult(outer, want) || !sameResult(inner, want) {
		t.Errorf("Run = %+v, and the one inside it %+v, want %+v", outer, inner, want)
	}
}

// small is a graph of nodes with one reference each, made of the digits of a number.
func small(t *testing.T, number, count int) world {
	t.Helper()
	sorts := []int{plain, soft, weak, phantom, final}
	var nodes []api.Node
	for i := range count {
		sort := sorts[number%len(sorts)]
		number /= len(sorts)
		n := of(sort, number%(count+1))
		number /= count + 1
		nodes = append(nodes, with(n, 0, 5*i))
	}
	return row(t, "a small graph", nodes...)
}

// smalls is how many small graphs there are with so many nodes.
func smalls(count int) int {
	sum := 1
	for range count {
		sum *= 5 * (count + 1)
	}
	return sum
}

// P13.1, P13.2, P13.3: every graph of up to two nodes with a reference each, with every set of roots, and every keeper.
func TestSmallGraphs(t *testing.T) {
	for count := 1; count <= 2; count++ {
		for number := range smalls(count) {
			w := small(t, number, count)
			for _, roots := range subsets(w.ids()) {
				w.checkAll(roots...)
			}
		}
	}
}

// P13.1: every graph of three nodes with a reference each, with every set of roots, and every set of nodes that are kept.
func TestThreeNodes(t *testing.T) {
	const count = 3
	for number := range smalls(count) {
		w := small(t, number, count)
		for _, roots := range subsets(w.ids()) {
			k := only(subsets(w.ids())[number%8]...)
			w.promises(k, w.run(k, roots...), roots)
			w.run(all(), roots...)
		}
		if t.Failed() {
			t.Fatalf("%v", w.nodes)
		}
	}
}

// mixed is a graph of nodes of all classes whose references hang on a number.
func mixed(t *testing.T, seed int) (world, []int) {
	t.Helper()
	state := uint32(seed)*2654435761 + 12345
	next := func(below int) int {
		state = state*1664525 + 1013904223
		return int(state>>10) % below
	}
	count := 3 + next(15)
	nodes := map[int]api.Node{}
	for id := 1; id <= count; id++ {
		class := 1 + next(len(sample))
		refs := sample[class-1].Refs
		if sample[class-1].Kind == api.Array {
			refs = next(4)
		}
		var list []int
		for range refs {
			list = append(list, max(next(2*count)-count+1, 0))
		}
		n := with(of(class, list...), next(5), next(10))
		n.Final = n.Final && next(3) > 0
		nodes[id] = n
	}
	var roots []int
	for range next(4) {
		roots = append(roots, next(count+2))
	}
	return build(t, "a mixed graph", nodes), roots
}

// P13.1, P13.2, P13.3: many graphs of nodes of all classes. They show each step's work often enough.
func TestMixedGraphs(t *testing.T) {
	cleared, finals, asked := map[int]int{}, 0, 0
	for seed := range 1500 {
		w, roots := mixed(t, seed)
		for _, k := range keepers() {
			r := w.check(k, roots...)
			for _, id := range r.Cleared {
				cleared[sample[w.nodes[id].Class-1].Kind]++
			}
			finals += len(r.Final)
			asked += len(w.read(k.make(), roots).asked)
		}
		if t.Failed() {
			t.Fatalf("seed %d: %v", seed, w.nodes)
		}
	}
	for kind, count := range map[int]int{api.Soft: cleared[api.Soft], api.Weak: cleared[api.Weak], api.Phantom: cleared[api.Phantom], -1: finals, -2: asked} {
		if count < 1000 {
			t.Errorf("only %d nodes of %d: the graphs show too little", count, kind)
		}
	}
}

// long is a chain of nodes of one class, whose first reference leads to the next, or to the one before; the last to none.
func long(t *testing.T, class, count int, backwards bool) *graph.Graph {
	t.Helper()
	g := graph.New(table(t))
	for id := 1; id <= count; id++ {
		g.Add(id, class, 0)
	}
	for id := 2; id <= count; id++ {
		if backwards {
			g.SetRef(id, 0, id-1)
		} else {
			g.SetRef(id-1, 0, id)
		}
	}
	return g
}

// R1: long chains end, in both directions.
func TestLongChains(t *testing.T) {
	const count = 20000
	for _, x := range []struct {
		class int
		live  int
		kept  bool
	}{
		{plain, count, true}, {final, count, false}, {soft, count, true}, {soft, 1, false}, {weak, 1, true}, {phantom, 1, true},
	} {
		for _, backwards := range []bool{false, true} {
			g := long(t, x.class, count, backwards)
			root := 1
			if backwards {
				root = count
			}
			calls := 0
			r := process.Run(g, func(api.Node) bool { calls++; return x.kept }, root)
			if len(r.Live) != x.live || len(r.Final) != 0 {
				t.Errorf("class %d: %d live nodes, %d to be finalized", x.class, len(r.Live), len(r.Final))
			}
			if want := min(x.live, count-1); x.class == soft && calls != want {
				t.Errorf("class %d: keep is called %d times, want %d", x.class, calls, want)
			}
			if n := process.Apply(g, r); n != count-x.live {
				t.Errorf("class %d: Apply = %d", x.class, n)
			}
		}
	}
}

// R1: many Soft nodes, all of which are live from the beginning.
func TestManySoft(t *testing.T) {
	const count = 20000
	for _, kept := range []bool{true, false} {
		g := graph.New(table(t))
		var roots, asked []int
		for id := 2; id <= 2*count; id += 2 {
			g.Add(id, soft, 0)
			g.Add(id-1, final, 0)
			g.SetRef(id, 0, id-1)
			roots = append(roots, id)
		}
		r := process.Run(g, func(n api.Node) bool { asked = append(asked, n.Id); return kept }, roots...)
		if !slices.Equal(asked, roots) || len(r.Live) != 2*count {
			t.Errorf("keep is called for %d nodes; %d are live", len(asked), len(r.Live))
		}
		if done := !slices.Equal(r.Cleared, roots) || len(r.Final) != count; done != kept {
			t.Errorf("kept: %t, and %d nodes are cleared, %d to be finalized", kept, len(r.Cleared), len(r.Final))
		}
	}
}
