package strength_test

import (
	"math"
	"reflect"
	"slices"
	"testing"

	"gleaning/api"
	"gleaning/class"
	"gleaning/graph"
	"gleaning/strength"
)

// The chapter's levels, written out, so that one that is numbered wrongly is seen.
const (
	gone = iota
	strong
	viaSoft
	viaWeak
	viaFinal
	viaPhantom
	mostLevel = viaPhantom
)

// levels are those that there are, and ones below and above them.
var levels = []int{
	math.MinInt, math.MinInt + 1, math.MinInt32, -1 << 32, -5, -2, -1, 0, 1, 2, 3, 4, 5, 6, 7, 8, 64,
	1 << 32, 1<<32 + 1, 1<<32 + 3, math.MaxInt32, math.MaxInt - 1, math.MaxInt,
}

// strangers are numbers that are no nodes of most graphs.
var strangers = []int{
	0, -1, -2, -3, 99, 1 << 32, 1<<32 + 1, -1<<32 + 1, math.MinInt, math.MinInt + 1, math.MaxInt - 1, math.MaxInt,
}

// The classes of sample, by their numbers.
const (
	plain = iota + 1
	array
	final
	finalArray
	soft
	weak
	phantom
	soft3
	weak3
	phantom3
	numbers
)

var sample = []api.Class{
	plain - 1:      {Kind: api.Plain, Refs: 2},
	array - 1:      {Kind: api.Array},
	final - 1:      {Kind: api.Plain, Refs: 2, Data: 1, Final: true},
	finalArray - 1: {Kind: api.Array, Final: true},
	soft - 1:       {Kind: api.Soft, Refs: 1, Data: 2},
	weak - 1:       {Kind: api.Weak, Refs: 1, Data: 2},
	phantom - 1:    {Kind: api.Phantom, Refs: 1, Data: 2},
	soft3 - 1:      {Kind: api.Soft, Refs: 3, Data: 2},
	weak3 - 1:      {Kind: api.Weak, Refs: 3, Data: 2},
	phantom3 - 1:   {Kind: api.Phantom, Refs: 3, Data: 2},
	numbers - 1:    {Kind: api.Plain, Refs: 1, Data: 3},
}

func table(t *testing.T) *class.Table {
	t.Helper()
	c, e := class.New(sample...)
	if e != api.OK {
		t.Fatalf("New of the classes: error %d", e)
	}
	return c
}

// opens is the least level at which the first reference of a class's nodes counts.
func opens(class int) int {
	switch class {
	case soft, soft3:
		return viaSoft
	case weak, weak3:
		return viaWeak
	case phantom, phantom3:
		return viaPhantom
	}
	return strong
}

// node is what a test states of a node: its class, its first references (the others are 0), and whether it was finalized.
type node struct {
	class int
	refs  []int
	done  bool
}

func of(class int, refs ...int) node { return node{class: class, refs: refs} }

// over is a node that was finalized.
func over(class int, refs ...int) node { return node{class: class, refs: refs, done: true} }

func (n node) isFinal() bool { return !n.done && (n.class == final || n.class == finalArray) }

// leads tells whether a node leads to another one within a level.
func (n node) leads(level, to int) bool {
	for field, ref := range n.refs {
		if ref == to && (field > 0 || opens(n.class) <= level) {
			return true
		}
	}
	return false
}

// world is a graph, and its nodes as a test states them.
type world struct {
	t     *testing.T
	what  string
	graph *graph.Graph
	nodes map[int]node
}

// build makes a graph of some nodes by their identifiers.
func build(t *testing.T, what string, nodes map[int]node) world {
	t.Helper()
	w := world{t: t, what: what, graph: graph.New(table(t)), nodes: nodes}
	for id, n := range nodes {
		length := 0
		if n.class == array || n.class == finalArray {
			length = len(n.refs)
		}
		w.ok(w.graph.Add(id, n.class, length))
	}
	for id, n := range nodes {
		for field, to := range n.refs {
			w.ok(w.graph.SetRef(id, field, to))
		}
		if n.done {
			w.ok(w.graph.Done(id))
		}
	}
	return w
}

// row makes a graph of nodes that are numbered from 1 on.
func row(t *testing.T, what string, nodes ...node) world {
	t.Helper()
	byId := map[int]node{}
	for i, n := range nodes {
		byId[i+1] = n
	}
	return build(t, what, byId)
}

func (w world) ok(e api.Errno) {
	w.t.Helper()
	if e != api.OK {
		w.t.Fatalf("%s: the graph can't be made: error %d", w.what, e)
	}
}

func (w world) ids() []int {
	var list []int
	for id := range w.nodes {
		list = append(list, id)
	}
	slices.Sort(list)
	return list
}

// belongs tells whether a node must be in a set of nodes, by the sentence of the chapter.
func (w world) belongs(id, level int, set, roots []int) bool {
	if slices.Contains(roots, id) || level >= viaFinal && w.nodes[id].isFinal() {
		return true
	}
	return slices.ContainsFunc(set, func(from int) bool { return w.nodes[from].leads(level, id) })
}

// within is the least set that the chapter's sentence allows: it grows until it lacks nothing.
func (w world) within(level int, roots []int) []int {
	var set []int
	for grown := level >= strong; grown; {
		grown = false
		for id := range w.nodes {
			if !slices.Contains(set, id) && w.belongs(id, level, set, roots) {
				set, grown = append(set, id), true
			}
		}
	}
	slices.Sort(set)
	return set
}

// sets are what is reached within each level; at 0 there is nothing.
func (w world) sets(roots []int) [mostLevel + 1][]int {
	var all [mostLevel + 1][]int
	for level := range all {
		all[level] = w.within(level, roots)
	}
	return all
}

// check makes all calls with some roots.
func (w world) check(roots ...int) {
	w.t.Helper()
	sets := w.sets(roots)
	for _, level := range levels {
		want := sets[min(max(level, 0), mostLevel)]
		if l := strength.Within(w.graph, level, roots...); !slices.Equal(l, want) {
			w.t.Errorf("%s: Within(%d, %v) = %v, want %v", w.what, level, roots, l, want)
		}
	}
	if l := strength.Reach(w.graph, roots...); !slices.Equal(l, sets[strong]) {
		w.t.Errorf("%s: Reach(%v) = %v, want %v", w.what, roots, l, sets[strong])
	}
	for _, id := range slices.Concat(w.ids(), strangers) {
		want := gone
		for level := mostLevel; level >= strong; level-- {
			if slices.Contains(sets[level], id) {
				want = level
			}
		}
		if s := strength.Of(w.graph, id, roots...); s != want {
			w.t.Errorf("%s: Of(%d, %v) = %d, want %d", w.what, id, roots, s, want)
		}
	}
}

// want holds the strengths of the nodes of a row against some that are written out.
func (w world) want(roots []int, strengths ...int) {
	w.t.Helper()
	for i, want := range strengths {
		if s := strength.Of(w.graph, i+1, roots...); s != want {
			w.t.Errorf("%s: Of(%d, %v) = %d, want %d", w.what, i+1, roots, s, want)
		}
	}
	for level := strong; level <= mostLevel; level++ {
		var want []int
		for i, s := range strengths {
			if s != gone && s <= level {
				want = append(want, i+1)
			}
		}
		if l := strength.Within(w.graph, level, roots...); !slices.Equal(l, want) {
			w.t.Errorf("%s: Within(%d, %v) = %v, want %v", w.what, level, roots, l, want)
		}
		if l := strength.Reach(w.graph, roots...); level == strong && !slices.Equal(l, want) {
			w.t.Errorf("%s: Reach(%v) = %v, want %v", w.what, roots, l, want)
		}
	}
	w.check(roots...)
}

// subsets are all lists of some numbers, each ascending.
func subsets(list []int) [][]int {
	all := [][]int{nil}
	for _, x := range list {
		for _, l := range slices.Clone(all) {
			all = append(all, append(slices.Clone(l), x))
		}
	}
	return all
}

// one is the roots of a graph whose only root is node 1.
var one = []int{1}

// The chapter's example.
func TestExample(t *testing.T) {
	w := row(t, "the example", of(weak, 2), of(plain, 3), of(plain))
	w.want(one, strong, viaWeak, viaWeak)
}

// The constants are the chapter's, and numbers without a type of their own.
func TestConstants(t *testing.T) {
	list := []int8{strength.Gone, strength.Strong, strength.Soft, strength.Weak, strength.Final, strength.Phantom}
	if !slices.Equal(list, []int8{0, 1, 2, 3, 4, 5}) {
		t.Errorf("the strengths are %v", list)
	}
}

// P10.1: what holds, in each arrangement of nodes.
func TestHeld(t *testing.T) {
	for _, x := range []struct {
		what  string
		nodes []node
		roots []int
		want  []int
	}{
		{"alone", []node{of(plain), of(plain)}, one, []int{strong, gone}},
		{"no roots", []node{of(plain, 2), of(plain, 1)}, nil, []int{gone, gone}},
		{"itself", []node{of(plain, 1, 1), of(plain, 2)}, one, []int{strong, gone}},
		{"one another", []node{of(plain, 2), of(plain, 1)}, one, []int{strong, strong}},
		{"chain", []node{of(plain, 2), of(plain, 0, 3), of(array, 0, 0, 4), of(plain)}, one, []int{strong, strong, strong, strong}},
		{"chain from inside", []node{of(plain, 2), of(plain, 3), of(plain, 4), of(plain)}, []int{3}, []int{gone, gone, strong, strong}},
		{"chain backwards", []node{of(plain), of(plain, 1), of(plain, 2), of(plain, 3)}, []int{4}, []int{strong, strong, strong, strong}},
		{"ring", []node{of(plain, 2), of(plain, 3), of(plain, 4), of(plain, 1)}, []int{3}, []int{strong, strong, strong, strong}},
		{"ring backwards", []node{of(plain, 4), of(plain, 1), of(plain, 2), of(plain, 3)}, []int{2}, []int{strong, strong, strong, strong}},
		{"two ways", []node{of(plain, 2, 3), of(plain, 4), of(plain, 4), of(plain)}, one, []int{strong, strong, strong, strong}},
		{"twice", []node{of(plain, 2, 2), of(array, 3, 0, 3), of(plain)}, one, []int{strong, strong, strong}},
		{"second reference", []node{of(plain, 0, 2), of(plain)}, one, []int{strong, strong}},
		{"two parts", []node{of(plain, 2), of(plain), of(plain, 4), of(plain)}, []int{3}, []int{gone, gone, strong, strong}},
		{"held by what is not reached", []node{of(plain), of(plain, 1)}, one, []int{strong, gone}},
		{"numbers lead nowhere", []node{of(numbers, 2), of(plain), of(plain)}, one, []int{strong, strong, gone}},
	} {
		w := row(t, x.what, x.nodes...)
		if x.nodes[0].class == numbers {
			w.ok(w.graph.SetNum(1, 0, 3))
			w.ok(w.graph.SetNum(1, 2, 3))
		}
		w.want(x.roots, x.want...)
	}
}

// kinds are the reference classes, with one reference and with three, and the strength of what they alone lead to.
var kinds = []struct {
	what       string
	one, three int
	leads      int
}{
	{"Soft", soft, soft3, viaSoft},
	{"Weak", weak, weak3, viaWeak},
	{"Phantom", phantom, phantom3, viaPhantom},
}

// P10.1: what a reference node refers to comes from its level on, with what that holds; never by Reach.
func TestReferents(t *testing.T) {
	for _, k := range kinds {
		at := k.leads
		for _, x := range []struct {
			what  string
			nodes []node
			roots []int
			want  []int
		}{
			{"as a root", []node{of(k.one, 2), of(plain)}, one, []int{strong, at}},
			{"held by a root", []node{of(plain, 2), of(k.one, 3), of(plain)}, one, []int{strong, strong, at}},
			{"held by its referent", []node{of(k.one, 2), of(plain, 1)}, one, []int{strong, at}},
			{"held by its referent, a root", []node{of(k.one, 2), of(plain, 1)}, []int{2}, []int{strong, strong}},
			{"held by its referent, no roots", []node{of(k.one, 2), of(plain, 1)}, nil, []int{gone, gone}},
			{"no referent", []node{of(k.one, 0), of(plain)}, one, []int{strong, gone}},
			{"no referent, two others", []node{of(k.three, 0, 2, 3), of(plain), of(plain)}, one, []int{strong, strong, strong}},
			{"itself", []node{of(k.one, 1), of(plain)}, one, []int{strong, gone}},
			{"itself, no roots", []node{of(k.one, 1), of(plain)}, nil, []int{gone, gone}},
			{"not reached", []node{of(plain), of(k.one, 3), of(plain)}, one, []int{strong, gone, gone}},
			{"referent a root, too", []node{of(k.one, 2), of(plain)}, []int{1, 2}, []int{strong, strong}},
			{"referent held, too", []node{of(plain, 2, 3), of(k.one, 3), of(plain)}, one, []int{strong, strong, strong}},
			{"referent held from afar", []node{of(k.one, 4), of(plain, 3), of(plain, 4), of(plain)}, []int{2, 1}, []int{strong, strong, strong, strong}},
			{"referent held by its other reference", []node{of(k.three, 2, 0, 2), of(plain)}, one, []int{strong, strong}},
			{"other references hold", []node{of(k.three, 2, 3, 4), of(plain), of(plain), of(plain)}, one, []int{strong, at, strong, strong}},
			{"what the referent holds", []node{of(k.one, 2), of(plain, 3), of(plain, 4, 5), of(plain), of(plain, 3)}, one, []int{strong, at, at, at, at}},
			{"what holds the referent", []node{of(k.one, 3), of(plain, 3), of(plain)}, one, []int{strong, gone, at}},
			{"two of the kind", []node{of(k.one, 3), of(k.one, 3), of(plain)}, []int{1, 2}, []int{strong, strong, at}},
			{"one behind the other", []node{of(k.one, 2), of(k.one, 3), of(k.one, 4), of(plain)}, one, []int{strong, at, at, at}},
			{"ring of the kind", []node{of(k.one, 2), of(k.one, 3), of(k.one, 1)}, []int{3}, []int{at, at, strong}},
			{"ring of the kind, no roots", []node{of(k.one, 2), of(k.one, 3), of(k.one, 1)}, nil, []int{gone, gone, gone}},
			{"backwards", []node{of(plain), of(plain, 1), of(k.one, 2)}, []int{3}, []int{at, at, strong}},
		} {
			row(t, k.what+": "+x.what, x.nodes...).want(x.roots, x.want...)
		}
	}
}

// P10.1: what reference nodes lead to behind one another has the level of the weakest of them, in whatever order.
func TestReferentsOfReferents(t *testing.T) {
	for _, a := range kinds {
		for _, b := range kinds {
			what, two := a.what+" to "+b.what, max(a.leads, b.leads)
			row(t, what, of(a.one, 2), of(b.one, 3), of(plain)).want(one, strong, a.leads, two)
			row(t, what+", downwards", of(plain), of(b.one, 1), of(a.one, 2)).want([]int{3}, two, a.leads, strong)
			row(t, what+" held by the referent", of(a.one, 2), of(plain, 3), of(b.one, 4), of(plain)).
				want(one, strong, a.leads, a.leads, two)
			row(t, what+", to each other", of(a.one, 2), of(b.one, 1)).want(one, strong, a.leads)
			row(t, what+", to one node", of(a.one, 3), of(b.one, 3), of(plain)).
				want([]int{1, 2}, strong, strong, min(a.leads, b.leads))
			for _, c := range kinds {
				w := row(t, what+" to "+c.what, of(a.one, 2), of(b.one, 3), of(c.one, 4), of(plain))
				w.want(one, strong, a.leads, two, max(two, c.leads))
			}
		}
	}
}

// P10.1: a shorter way that is weaker does not count against a longer one that is stronger.
func TestStrongestWay(t *testing.T) {
	w := row(t, "two ways", of(phantom3, 5, 2), of(weak3, 5, 3), of(soft3, 5, 4), of(plain, 5), of(plain))
	w.want([]int{1}, strong, strong, strong, strong, strong)
	w.want([]int{2, 3}, gone, strong, strong, strong, strong)
	w = row(t, "three ways", of(array, 2, 3, 4), of(phantom, 5), of(weak, 5), of(soft, 5), of(plain, 6), of(plain))
	w.want([]int{1}, strong, strong, strong, strong, viaSoft, viaSoft)
	w.want([]int{2, 3}, gone, strong, strong, gone, viaWeak, viaWeak)
	w.want([]int{2}, gone, strong, gone, gone, viaPhantom, viaPhantom)
	w = row(t, "Soft over Weak, and Phantom", of(array, 2, 3), of(soft, 4), of(phantom, 5), of(weak, 5), of(plain))
	w.want([]int{1}, strong, strong, strong, viaSoft, viaWeak)
}

// P10.1: nodes that are Final are reached from level 4 on, with what they lead to, unless they are reached before.
func TestFinal(t *testing.T) {
	for _, class := range []int{final, finalArray} {
		for _, x := range []struct {
			what  string
			nodes []node
			roots []int
			want  []int
		}{
			{"no roots", []node{of(class), of(plain)}, nil, []int{viaFinal, gone}},
			{"a root", []node{of(class), of(plain)}, one, []int{strong, gone}},
			{"held by a root", []node{of(plain, 2), of(class)}, one, []int{strong, strong}},
			{"held by what is not reached", []node{of(plain, 2), of(class)}, nil, []int{gone, viaFinal}},
			{"what it holds", []node{of(class, 2), of(plain, 3), of(plain)}, nil, []int{viaFinal, viaFinal, viaFinal}},
			{"what it holds, with a root", []node{of(plain), of(class, 3), of(plain)}, one, []int{strong, viaFinal, viaFinal}},
			{"itself", []node{of(class, 1)}, nil, []int{viaFinal}},
			{"one another", []node{of(class, 2), of(class, 1), of(plain, 1)}, nil, []int{viaFinal, viaFinal, gone}},
			{"Soft behind it", []node{of(class, 2), of(soft, 3), of(plain)}, nil, []int{viaFinal, viaFinal, viaFinal}},
			{"Weak behind it", []node{of(class, 2), of(weak, 3), of(plain)}, nil, []int{viaFinal, viaFinal, viaFinal}},
			{"Phantom behind it", []node{of(class, 2), of(phantom, 3), of(plain)}, nil, []int{viaFinal, viaFinal, viaPhantom}},
			{"Soft ahead of it", []node{of(soft, 2), of(class, 3), of(plain)}, one, []int{strong, viaSoft, viaSoft}},
			{"Weak ahead of it", []node{of(weak, 2), of(class, 3), of(plain)}, one, []int{strong, viaWeak, viaWeak}},
			{"Phantom ahead of it", []node{of(phantom, 2), of(class, 3), of(plain)}, one, []int{strong, viaFinal, viaFinal}},
			{"Phantom ahead of what it holds", []node{of(phantom, 2), of(plain), of(class, 2)}, one, []int{strong, viaFinal, viaFinal}},
			{"what it holds is a root", []node{of(class, 2), of(plain)}, []int{2}, []int{viaFinal, strong}},
			{"many", []node{of(class, 4), of(plain), of(class), of(plain), of(class, 2)}, nil, []int{viaFinal, viaFinal, viaFinal, viaFinal, viaFinal}},
		} {
			row(t, "Final: "+x.what, x.nodes...).want(x.roots, x.want...)
		}
	}
}

// P10.1: a node that was finalized is as one that never was Final.
func TestDone(t *testing.T) {
	row(t, "done", over(final, 2), of(plain)).want(nil, gone, gone)
	row(t, "done, a root", over(final, 2), of(plain)).want(one, strong, strong)
	row(t, "done, and not", over(final, 2), of(plain), of(final, 4), of(plain)).want(nil, gone, gone, viaFinal, viaFinal)
	row(t, "done, behind one that is Final", of(final, 2), over(final, 3), of(plain)).want(nil, viaFinal, viaFinal, viaFinal)
	row(t, "done, behind a Phantom", of(phantom, 2), over(finalArray, 3), of(plain)).want(one, strong, viaPhantom, viaPhantom)
	w := row(t, "done between calls", of(final, 2), of(plain), of(finalArray, 2))
	w.want(nil, viaFinal, viaFinal, viaFinal)
	for i, want := range [][]int{{gone, viaFinal, viaFinal}, {gone, gone, gone}} {
		id := 1 + 2*i
		w.ok(w.graph.Done(id))
		w.nodes[id] = over(w.nodes[id].class, w.nodes[id].refs...)
		w.want(nil, want...)
	}
}

// everything is a graph in which there is something of each strength, forwards and backwards.
func everything(t *testing.T, what string) world {
	t.Helper()
	return build(t, what, map[int]node{
		1:               of(array, 7, 30, 30, 0, 5),
		2:               of(plain),
		5:               of(soft3, 2, 40, 0),
		7:               of(weak, 8),
		8:               of(plain, 9, 1),
		9:               of(soft, 10),
		10:              of(phantom, 11),
		11:              of(plain, 12),
		12:              of(plain, 11),
		20:              of(final, 21),
		21:              of(phantom3, 22, 8, 0),
		22:              of(weak, 23),
		23:              of(plain),
		30:              of(phantom, 31),
		31:              of(plain, 31),
		40:              over(final, 0, 2),
		50:              over(finalArray, 51, 52),
		51:              of(soft, 50),
		52:              of(plain, 99),
		99:              of(weak, 1),
		1 << 32:         of(plain, 1<<32+1),
		1<<32 + 1:       of(weak, math.MaxInt),
		math.MaxInt:     of(finalArray, math.MaxInt, 1<<32),
		math.MaxInt - 1: of(numbers, math.MaxInt),
	})
}

// P10.1: no roots, each one, each two in both orders, and all.
func TestRoots(t *testing.T) {
	w := everything(t, "roots")
	ids := w.ids()
	w.check()
	w.check(ids...)
	for _, a := range ids {
		w.check(a)
		for _, b := range ids {
			w.check(a, b)
		}
	}
}

// same holds that two lists of roots have the same results.
func (w world) same(a, b []int) {
	w.t.Helper()
	if !slices.Equal(strength.Reach(w.graph, a...), strength.Reach(w.graph, b...)) {
		w.t.Errorf("%s: Reach(%v) and Reach(%v) differ", w.what, a, b)
	}
	for _, level := range levels {
		if !slices.Equal(strength.Within(w.graph, level, a...), strength.Within(w.graph, level, b...)) {
			w.t.Errorf("%s: Within(%d, %v) and Within(%d, %v) differ", w.what, level, a, level, b)
		}
	}
	for id := range w.nodes {
		if strength.Of(w.graph, id, a...) != strength.Of(w.graph, id, b...) {
			w.t.Errorf("%s: Of(%d, %v) and Of(%d, %v) differ", w.what, id, a, id, b)
		}
	}
}

// P10.1: the order of the roots, and how often they come, make no difference.
func TestRootsInAnyOrder(t *testing.T) {
	w := everything(t, "the same roots")
	for _, roots := range [][]int{{1}, {7, 1, 30}, {99, 22, 10, 5}, {math.MaxInt, 1, 1 << 32}, w.ids()} {
		turned := slices.Clone(roots)
		slices.Reverse(turned)
		w.same(roots, turned)
		w.same(roots, slices.Concat(roots, roots))
		w.same(roots, slices.Concat(turned, roots[:1], turned, roots))
		w.check(slices.Concat(roots, roots)...)
	}
}

// P10.1: roots that are not nodes are ignored, wherever they stand.
func TestRootsThatAreNoNodes(t *testing.T) {
	w := row(t, "strangers", of(weak, 2), of(plain, 3), of(final), of(soft, 4), of(plain, 1))
	w.check(strangers...)
	w.same(nil, strangers)
	for _, roots := range [][]int{{1}, {4}, {5, 3}, {1, 2, 3, 4, 5}} {
		w.same(roots, slices.Concat(strangers, roots))
		w.same(roots, slices.Concat(roots, strangers))
		w.same(roots, slices.Concat(roots[:1], strangers, roots[1:], strangers))
		for _, x := range strangers {
			w.same(roots, slices.Concat([]int{x}, roots))
			w.same(roots, append(slices.Clone(roots), x, x))
		}
	}
}

// R4: a nil slice of roots and an empty one are the same.
func TestEmptyRoots(t *testing.T) {
	w := everything(t, "no roots")
	w.same(nil, []int{})
	w.same(nil, make([]int, 0, 7))
	w.check([]int{}...)
}

// P10.1: Within is none at a level below 1, as at 5 above 5, and what Reach is at 1.
func TestLevels(t *testing.T) {
	w := everything(t, "levels")
	for _, roots := range [][]int{nil, {1}, {20, 50}, {22}, w.ids()} {
		for _, level := range levels {
			l := strength.Within(w.graph, level, roots...)
			switch {
			case level < 1:
				if len(l) != 0 {
					t.Errorf("Within(%d, %v) = %v", level, roots, l)
				}
			case level > 5:
				if most := strength.Within(w.graph, 5, roots...); !slices.Equal(l, most) || len(l) == 0 {
					t.Errorf("Within(%d, %v) = %v, and within 5: %v", level, roots, l, most)
				}
			case level == 1:
				if all := strength.Reach(w.graph, roots...); !slices.Equal(l, all) {
					t.Errorf("Within(1, %v) = %v, and Reach: %v", roots, l, all)
				}
			}
		}
	}
}

// R1: a graph without nodes, whatever it is of, reaches nothing.
func TestNoNodes(t *testing.T) {
	none, _ := class.New()
	emptied := everything(t, "emptied").graph
	emptied.Keep()
	for what, g := range map[string]*graph.Graph{
		"nil": nil, "zero": {}, "new": graph.New(table(t)), "of no table": graph.New(nil), "of no classes": graph.New(none), "emptied": emptied,
	} {
		w := world{t: t, what: what, graph: g}
		w.check()
		for _, roots := range [][]int{{1}, {1, 2, 3}, strangers} {
			w.check(roots...)
		}
	}
}

// P10.1: a node that is not there is Gone, also as a root, and when it was removed.
func TestNotThere(t *testing.T) {
	w := everything(t, "removed")
	w.graph.Keep(1, 7, 9, 10, 20, 21, 30)
	for id, n := range w.nodes {
		if !slices.Contains(w.graph.Ids(), id) {
			delete(w.nodes, id)
		}
		for field, to := range n.refs {
			if !slices.Contains(w.graph.Ids(), to) {
				n.refs[field] = 0
			}
		}
	}
	w.check()
	w.check(1)
	for _, id := range []int{2, 8, 31, 22} {
		if s := strength.Of(w.graph, id, id, 1, 20); s != gone {
			t.Errorf("Of(%d) = %d, though there is no such node", id, s)
		}
		w.check(1, id, 21, id)
	}
}

// R6: the results are those of the graph as it is now.
func TestChanges(t *testing.T) {
	w := row(t, "changes", of(weak, 2), of(plain), of(plain))
	w.want(one, strong, viaWeak, gone)
	w.ok(w.graph.SetRef(2, 1, 3))
	w.nodes[2] = of(plain, 0, 3)
	w.want(one, strong, viaWeak, viaWeak)
	w.ok(w.graph.SetRef(1, 0, 0))
	w.nodes[1] = of(weak)
	w.want(one, strong, gone, gone)
	w.ok(w.graph.Add(4, final, 0))
	w.ok(w.graph.SetRef(4, 0, 2))
	w.nodes[4] = of(final, 2)
	w.want(one, strong, viaFinal, viaFinal, viaFinal)
}

// R6: graphs leave one another as they are.
func TestTwoGraphs(t *testing.T) {
	a, b := row(t, "a", of(weak, 2), of(plain)), row(t, "b", of(soft, 2), of(plain, 1))
	for range 3 {
		a.want(one, strong, viaWeak)
		b.want(one, strong, viaSoft)
		b.want([]int{2}, strong, strong)
		a.want([]int{2}, gone, strong)
	}
}

// R6: no result hangs on the order in which a map is gone through.
func TestSameEachTime(t *testing.T) {
	for range 20 {
		w := everything(t, "each time")
		w.check(1, 51, 22)
	}
}

// P10.1: what is returned ascends, each node once, however many there are and in whatever order they came.
func TestAscending(t *testing.T) {
	for count := range 40 {
		g := graph.New(table(t))
		var roots []int
		for i := range count {
			g.Add(i*17%41+1, array, 30)
			roots = append(roots, i*17%41+1)
		}
		for i, id := range roots {
			for field := range 30 {
				g.SetRef(id, field, roots[(i+field*field)%count])
			}
		}
		for level := 1; level <= mostLevel; level++ {
			l := strength.Within(g, level, append(roots, roots...)...)
			if len(l) != count || !slices.IsSorted(l) || !slices.Equal(l, g.Ids()) {
				t.Errorf("Within(%d) of %d nodes is %v", level, count, l)
			}
		}
	}
}

// spoil overwrites a list, up to what is behind its end.
func spoil(l []int) {
	for i := range l[:cap(l)] {
		l[:cap(l)][i] = -77
	}
}

// R3: what is returned shares no memory with the graph, with the roots, or with what else is returned.
func TestSharesNothing(t *testing.T) {
	w := everything(t, "shares")
	for _, roots := range [][]int{w.ids(), {1}, {1, 7, 30}, {2}, {math.MaxInt}} {
		before := slices.Clone(roots)
		kept := strength.Within(w.graph, mostLevel, roots...)
		copied := slices.Clone(kept)
		for _, level := range levels {
			spoil(strength.Within(w.graph, level, roots...))
		}
		spoil(strength.Reach(w.graph, roots...))
		if !slices.Equal(roots, before) || !slices.Equal(kept, copied) {
			t.Errorf("the roots are %v, a result of before is %v; they were %v, %v", roots, kept, before, copied)
		}
		w.check(roots...)
		spoil(roots)
		if !slices.Equal(kept, copied) {
			t.Errorf("the roots are part of a result: %v", kept)
		}
	}
	w.check(1)
}

// R3: the roots stay as they are, and what is behind their end is neither read nor written.
func TestLeavesItsArguments(t *testing.T) {
	w := everything(t, "arguments")
	room := []int{30, 1, 30, 50, 0, 7, -3, 2, 99, 1 << 32, 51, 22, 12, 1, 1, 1}
	before := slices.Clone(room)
	for length := range room {
		roots := room[:length]
		w.check(roots...)
		if !slices.Equal(room, before) {
			t.Fatalf("with %d roots, the arguments and what is behind them became %v", length, room)
		}
	}
}

// snapshot is all that can be asked of a graph.
func snapshot(g *graph.Graph) []any {
	all := []any{g.Ids(), g.Words()}
	for _, id := range g.Ids() {
		n, _ := g.Node(id)
		to, kind := g.Aim(id)
		all = append(all, n, g.Holds(id), to, kind)
	}
	return all
}

// R3: the calls leave the graph as it is.
func TestLeavesTheGraph(t *testing.T) {
	w := everything(t, "the graph")
	before := snapshot(w.graph)
	for _, roots := range [][]int{nil, {1}, {99, 20}, strangers, w.ids()} {
		w.check(roots...)
		if !reflect.DeepEqual(snapshot(w.graph), before) {
			t.Fatalf("with the roots %v, the graph was changed", roots)
		}
	}
}

// strengths are those of all nodes with some roots.
func (w world) strengths(roots []int) map[int]int {
	all := map[int]int{}
	for id := range w.nodes {
		all[id] = strength.Of(w.graph, id, roots...)
	}
	return all
}

// wantGrowing holds P10.2 with some roots: within more levels there is no less, and what a Strong node holds is Strong.
func (w world) wantGrowing(roots []int, strengths map[int]int) {
	w.t.Helper()
	for level := 0; level < mostLevel+1; level++ {
		more := strength.Within(w.graph, level+1, roots...)
		for _, id := range strength.Within(w.graph, level, roots...) {
			if !slices.Contains(more, id) {
				w.t.Errorf("%s: with the roots %v, %d is reached within %d, not within %d", w.what, roots, id, level, level+1)
			}
		}
	}
	for id, s := range strengths {
		for _, to := range w.graph.Holds(id) {
			if s == strong && strengths[to] != strong {
				w.t.Errorf("%s: with the roots %v, %d is Strong and holds %d, whose strength is %d", w.what, roots, id, to, strengths[to])
			}
		}
	}
}

// wantNoWeaker holds P10.2 between the strengths with some roots and those with more.
func (w world) wantNoWeaker(few, many []int, with, withMore map[int]int) {
	w.t.Helper()
	for id, s := range with {
		if s != gone && (withMore[id] == gone || withMore[id] > s) {
			w.t.Errorf("%s: Of(%d, %v) = %d, Of(%d, %v) = %d", w.what, id, few, s, id, many, withMore[id])
		}
	}
}

// P10.2: with each set of a few roots, and each root that is added to it.
func TestMoreRoots(t *testing.T) {
	w := everything(t, "more roots")
	for _, few := range subsets([]int{1, 7, 10, 20, 51, 1 << 32}) {
		with := w.strengths(few)
		w.wantGrowing(few, with)
		for _, root := range slices.Concat(w.ids(), []int{0, -1, 3}) {
			many := append(slices.Clone(few), root)
			w.wantNoWeaker(few, many, with, w.strengths(many))
		}
	}
}

// small is a graph of nodes with one reference each, made of the digits of a number.
func small(t *testing.T, number, count int) world {
	t.Helper()
	sorts := []int{plain, soft, weak, phantom, final}
	var nodes []node
	for range count {
		sort := sorts[number%len(sorts)]
		number /= len(sorts)
		nodes = append(nodes, of(sort, number%(count+1)))
		number /= count + 1
	}
	return row(t, "a small graph", nodes...)
}

// smalls is how many small graphs there are with so many nodes.
func smalls(count int) int {
	all := 1
	for range count {
		all *= 5 * (count + 1)
	}
	return all
}

// P10.1: every graph of up to three nodes with a reference each, with every set of roots.
func TestSmallGraphs(t *testing.T) {
	for count := 1; count <= 3; count++ {
		for number := range smalls(count) {
			w := small(t, number, count)
			for _, roots := range subsets(w.ids()) {
				for level, want := range w.sets(roots) {
					if l := strength.Within(w.graph, level, roots...); !slices.Equal(l, want) {
						t.Fatalf("%v: Within(%d, %v) = %v, want %v", w.nodes, level, roots, l, want)
					}
				}
			}
		}
	}
}

// P10.1, P10.2: the strengths in every graph of up to two nodes, with every set of roots and each one of more.
func TestSmallStrengths(t *testing.T) {
	for count := 1; count <= 2; count++ {
		for number := range smalls(count) {
			w := small(t, number, count)
			for _, roots := range subsets(w.ids()) {
				w.check(roots...)
				with := w.strengths(roots)
				w.wantGrowing(roots, with)
				for _, root := range w.ids() {
					more := append(slices.Clone(roots), root)
					w.wantNoWeaker(roots, more, with, w.strengths(more))
				}
			}
		}
	}
}

// mixed is a graph of nodes of all classes whose references hang on a number.
func mixed(t *testing.T, seed int) (world, []int) {
	t.Helper()
	state := uint32(seed)*2654435761 + 12345
	next := func(below int) int {
		state = state*1664525 + 1013904223
		return int(state>>10) % below
	}
	count := 3 + next(12)
	nodes := map[int]node{}
	for id := 1; id <= count; id++ {
		n := of(1 + next(len(sample)))
		refs := sample[n.class-1].Refs
		if n.class == array || n.class == finalArray {
			refs = next(4)
		}
		for range refs {
			n.refs = append(n.refs, max(next(2*count)-count+1, 0))
		}
		n.done = next(3) == 0
		nodes[id] = n
	}
	var roots []int
	for range next(4) {
		roots = append(roots, next(count+2))
	}
	return build(t, "a mixed graph", nodes), roots
}

// P10.1, P10.2: many graphs of nodes of all classes.
func TestMixedGraphs(t *testing.T) {
	seen := map[int]int{}
	for seed := range 500 {
		w, roots := mixed(t, seed)
		w.check(roots...)
		with := w.strengths(roots)
		w.wantGrowing(roots, with)
		for _, s := range with {
			seen[s]++
		}
		for _, root := range w.ids() {
			more := append(slices.Clone(roots), root)
			w.wantNoWeaker(roots, more, with, w.strengths(more))
		}
		if t.Failed() {
			t.Fatalf("seed %d: %v", seed, w.nodes)
		}
	}
	for s := gone; s <= mostLevel; s++ {
		if seen[s] < 20 {
			t.Errorf("only %d nodes have the strength %d: the graphs show too little", seen[s], s)
		}
	}
}

// long is a chain of nodes of one class, whose first reference leads to the next or to the one before.
func long(t *testing.T, class, count, step int) *graph.Graph {
	t.Helper()
	g := graph.New(table(t))
	for id := 1; id <= count; id++ {
		g.Add(id, class, 0)
	}
	for id := 1; id <= count; id++ {
		g.SetRef(id, 0, (id-1+step+count)%count+1)
	}
	return g
}

// R1: long rings, in both directions, end, and are reached as a whole.
func TestLongRings(t *testing.T) {
	const count = 20000
	for _, x := range []struct{ class, level int }{
		{plain, strong}, {soft, viaSoft}, {weak, viaWeak}, {phantom, viaPhantom}, {final, strong},
	} {
		for _, step := range []int{1, -1, 7, 0} {
			g := long(t, x.class, count, step)
			want, rest := count, x.level
			if step == 0 {
				want, rest = 1, gone
				if x.class == final {
					rest = viaFinal
				}
			}
			if l := strength.Within(g, x.level, 5); len(l) != want || !slices.IsSorted(l) {
				t.Errorf("class %d, step %d: Within(%d, 5) has %d nodes", x.class, step, x.level, len(l))
			}
			if l := strength.Within(g, x.level-1, 5); x.level > strong && !slices.Equal(l, []int{5}) {
				t.Errorf("class %d, step %d: Within(%d, 5) has %d nodes", x.class, step, x.level-1, len(l))
			}
			if s := strength.Of(g, count, 5); s != rest {
				t.Errorf("class %d, step %d: Of(%d, 5) = %d, want %d", x.class, step, count, s, rest)
			}
		}
	}
}

// R1: a graph with more ways through it than can be gone is gone through node by node.
func TestManyWays(t *testing.T) {
	const count = 200
	g := graph.New(table(t))
	for id := 1; id <= count; id++ {
		g.Add(id, array, 30)
	}
	for id := 1; id < count; id++ {
		for field := range 30 {
			g.SetRef(id, field, min(id+1+field%3, count))
		}
	}
	if l := strength.Reach(g, 1); len(l) != count {
		t.Errorf("Reach(1) has %d nodes", len(l))
	}
	if s := strength.Of(g, count, 1); s != strong {
		t.Errorf("Of(%d, 1) = %d", count, s)
	}
}

// R1: many roots, most of them the same or no nodes.
func TestManyRoots(t *testing.T) {
	g := long(t, weak, 100, 1)
	roots := make([]int, 100000)
	for i := range roots {
		roots[i] = i%200 - 50
	}
	if l := strength.Reach(g, roots...); len(l) != 100 {
		t.Errorf("Reach of many has %d nodes", len(l))
	}
	if s := strength.Of(g, 100, roots...); s != strong {
		t.Errorf("Of(100) with many roots = %d", s)
	}
}
