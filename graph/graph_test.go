package graph_test

import (
	"math"
	"reflect"
	"slices"
	"testing"

	"gleaning/api"
	"gleaning/class"
	"gleaning/graph"
)

// The chapters' numbers, written out, so that a limit taken wrongly is seen.
const (
	firstWords = 2
	mostFields = 30
)

// edges are the numbers around which a comparison or a sum may go wrong.
var edges = []int{
	math.MinInt, math.MinInt + 1, math.MinInt + 2, math.MinInt + 31, math.MinInt / 2, -1 << 32, -1<<32 + 1, -1<<32 + 2,
	math.MinInt32, -64, -33, -32, -31, -30, -29, -3, -2, -1, 0, 1, 2, 3, 4, 5, 27, 28, 29, 30, 31, 32, 33, 64, 65,
	255, 256, 257, 1 << 16, math.MaxInt32, 1 << 32, 1<<32 + 1, 1<<32 + 2, 1 << 62, math.MaxInt / 2,
	math.MaxInt - 31, math.MaxInt - 30, math.MaxInt - 29, math.MaxInt - 2, math.MaxInt - 1, math.MaxInt,
}

// The classes of sample, by their numbers.
const (
	bare = iota + 1
	final
	pair
	array
	finalArray
	soft
	weak
	phantom
	manyRefs
	manyData
	softOfTwo
	lastClass = softOfTwo
)

// sample has classes with neither references nor numbers, with one of both, and with both; of each kind; Final or not.
var sample = []api.Class{
	bare - 1:       {Kind: api.Plain},
	final - 1:      {Kind: api.Plain, Refs: 2, Data: 1, Final: true},
	pair - 1:       {Kind: api.Plain, Refs: 2, Data: 1},
	array - 1:      {Kind: api.Array},
	finalArray - 1: {Kind: api.Array, Final: true},
	soft - 1:       {Kind: api.Soft, Refs: 1, Data: 2},
	weak - 1:       {Kind: api.Weak, Refs: 3, Data: 4},
	phantom - 1:    {Kind: api.Phantom, Refs: 28, Data: 2},
	manyRefs - 1:   {Kind: api.Plain, Refs: mostFields, Final: true},
	manyData - 1:   {Kind: api.Plain, Data: mostFields},
	softOfTwo - 1:  {Kind: api.Soft, Refs: 2, Data: 3},
}

var referenceClasses = []int{soft, weak, phantom, softOfTwo}

func table(t *testing.T) *class.Table {
	t.Helper()
	c, e := class.New(sample...)
	if e != api.OK {
		t.Fatalf("New of the classes: error %d", e)
	}
	return c
}

// shape is what layer 5 says of a class and a length.
func shape(n, length int) (refs, data int, e api.Errno) {
	if n < 1 || n > len(sample) {
		return 0, 0, api.ErrClass
	}
	c := sample[n-1]
	switch {
	case length < 0, length != 0 && c.Kind != api.Array:
		return 0, 0, api.ErrArg
	case length > mostFields:
		return 0, 0, api.ErrLarge
	case c.Kind == api.Array:
		return length, 0, api.OK
	}
	return c.Refs, c.Data, api.OK
}

// model is a graph as the chapter words it: a list of nodes, in the order in which they came.
type model struct {
	nodes []api.Node
}

func (m *model) place(id int) int {
	return slices.IndexFunc(m.nodes, func(n api.Node) bool { return n.Id == id })
}

func (m *model) has(id int) bool { return m.place(id) >= 0 }

func (m *model) add(id, class, length int) api.Errno {
	refs, data, e := shape(class, length)
	switch {
	case e != api.OK:
		return e
	case id < 1, m.has(id):
		return api.ErrArg
	}
	m.nodes = append(m.nodes, api.Node{
		Id: id, Class: class, Refs: make([]int, refs), Data: make([]int, data), Final: sample[class-1].Final,
	})
	return api.OK
}

func (m *model) node(id int) (api.Node, api.Errno) {
	at := m.place(id)
	if at < 0 {
		return api.Node{}, api.ErrNull
	}
	return m.nodes[at], api.OK
}

func (m *model) setRef(id, field, to int) api.Errno {
	at := m.place(id)
	switch {
	case at < 0:
		return api.ErrNull
	case field < 0, field >= len(m.nodes[at].Refs):
		return api.ErrArg
	case to != 0 && !m.has(to):
		return api.ErrNull
	}
	m.nodes[at].Refs[field] = to
	return api.OK
}

func (m *model) setNum(id, field, n int) api.Errno {
	at := m.place(id)
	switch {
	case at < 0:
		return api.ErrNull
	case field < 0, field >= len(m.nodes[at].Data):
		return api.ErrArg
	}
	m.nodes[at].Data[field] = n
	return api.OK
}

func (m *model) done(id int) api.Errno {
	at := m.place(id)
	if at < 0 {
		return api.ErrNull
	}
	m.nodes[at].Final = false
	return api.OK
}

func (m *model) ids() []int {
	var list []int
	for _, n := range m.nodes {
		list = append(list, n.Id)
	}
	slices.Sort(list)
	return list
}

func (m *model) keep(ids []int) int {
	before := len(m.nodes)
	m.nodes = slices.DeleteFunc(m.nodes, func(n api.Node) bool { return !slices.Contains(ids, n.Id) })
	for _, n := range m.nodes {
		for i, to := range n.Refs {
			if !m.has(to) {
				n.Refs[i] = 0
			}
		}
	}
	return before - len(m.nodes)
}

func (m *model) holds(id int) []int {
	n, _ := m.node(id)
	_, kind := m.aim(id)
	var list []int
	for i, to := range n.Refs {
		if to != 0 && (i > 0 || kind == 0) {
			list = append(list, to)
		}
	}
	return list
}

func (m *model) aim(id int) (to, kind int) {
	n, e := m.node(id)
	if e != api.OK || !slices.Contains(referenceClasses, n.Class) {
		return 0, 0
	}
	return n.Refs[0], sample[n.Class-1].Kind
}

func (m *model) words() int {
	sum := 0
	for _, n := range m.nodes {
		sum += firstWords + len(n.Refs) + len(n.Data)
	}
	return sum
}

// points are the edges, the identifiers of the nodes, and those around them.
func (m *model) points() []int {
	list := slices.Clone(edges)
	for _, n := range m.nodes {
		list = append(list, n.Id, n.Id-1, n.Id+1, -n.Id, n.Id+math.MinInt, n.Id^1<<32)
	}
	return list
}

// sameNode holds two nodes against each other; a list that is nil is one without elements.
func sameNode(a, b api.Node) bool {
	return a.Id == b.Id && a.Class == b.Class && a.Final == b.Final &&
		slices.Equal(a.Refs, b.Refs) && slices.Equal(a.Data, b.Data)
}

// twin is a graph and its model, on which the same calls are made.
type twin struct {
	t     *testing.T
	what  string
	graph *graph.Graph
	model *model
}

func twinOf(t *testing.T, what string) twin {
	t.Helper()
	return twin{t: t, what: what, graph: graph.New(table(t)), model: &model{}}
}

func (w twin) add(id, class, length int) {
	w.t.Helper()
	e := w.graph.Add(id, class, length)
	if want := w.model.add(id, class, length); e != want {
		w.t.Errorf("%s: Add(%d, %d, %d) = %d, want %d", w.what, id, class, length, e, want)
	}
}

func (w twin) setRef(id, field, to int) {
	w.t.Helper()
	e := w.graph.SetRef(id, field, to)
	if want := w.model.setRef(id, field, to); e != want {
		w.t.Errorf("%s: SetRef(%d, %d, %d) = %d, want %d", w.what, id, field, to, e, want)
	}
}

func (w twin) setNum(id, field, n int) {
	w.t.Helper()
	e := w.graph.SetNum(id, field, n)
	if want := w.model.setNum(id, field, n); e != want {
		w.t.Errorf("%s: SetNum(%d, %d, %d) = %d, want %d", w.what, id, field, n, e, want)
	}
}

func (w twin) done(id int) {
	w.t.Helper()
	e := w.graph.Done(id)
	if want := w.model.done(id); e != want {
		w.t.Errorf("%s: Done(%d) = %d, want %d", w.what, id, e, want)
	}
}

func (w twin) keep(ids ...int) {
	w.t.Helper()
	n := w.graph.Keep(ids...)
	if want := w.model.keep(ids); n != want {
		w.t.Errorf("%s: Keep(%v) = %d, want %d", w.what, ids, n, want)
	}
}

// read reads a node, or what is none, by each call that changes nothing.
func (w twin) read(id int) {
	w.t.Helper()
	n, e := w.graph.Node(id)
	if want, err := w.model.node(id); !sameNode(n, want) || e != err {
		w.t.Errorf("%s: Node(%d) = %+v, %d, want %+v, %d", w.what, id, n, e, want, err)
	}
	if l := w.graph.Holds(id); !slices.Equal(l, w.model.holds(id)) {
		w.t.Errorf("%s: Holds(%d) = %v, want %v", w.what, id, l, w.model.holds(id))
	}
	to, kind := w.graph.Aim(id)
	if wantTo, wantKind := w.model.aim(id); to != wantTo || kind != wantKind {
		w.t.Errorf("%s: Aim(%d) = %d, %d, want %d, %d", w.what, id, to, kind, wantTo, wantKind)
	}
}

// check reads the whole graph.
func (w twin) check() {
	w.t.Helper()
	if l := w.graph.Ids(); !slices.Equal(l, w.model.ids()) {
		w.t.Errorf("%s: Ids() = %v, want %v", w.what, l, w.model.ids())
	}
	if n := w.graph.Words(); n != w.model.words() {
		w.t.Errorf("%s: Words() = %d, want %d", w.what, n, w.model.words())
	}
	for _, id := range w.model.points() {
		w.read(id)
	}
}

// fill adds a node of each class, and sets some of their references and numbers.
func (w twin) fill() {
	w.t.Helper()
	for c := lastClass; c >= 1; c-- {
		w.add(10*c, c, 0)
	}
	w.add(7, array, 4)
	w.add(8, finalArray, mostFields)
	w.add(math.MaxInt, array, 1)
	ids := w.model.ids()
	for i, id := range ids {
		n, _ := w.model.node(id)
		for field := range n.Refs {
			if field%4 != 3 {
				w.setRef(id, field, ids[(i+field*3)%len(ids)])
			}
		}
		for field := range n.Data {
			w.setNum(id, field, 100*id+field)
		}
	}
}

// filled is a graph with a node of each class.
func filled(t *testing.T, what string) twin {
	t.Helper()
	w := twinOf(t, what)
	w.fill()
	return w
}

// wantNoNode makes all calls that take a node's identifier, with one that is no node's.
func wantNoNode(t *testing.T, what string, g *graph.Graph, id int) {
	t.Helper()
	if n, e := g.Node(id); !reflect.DeepEqual(n, api.Node{}) || e != api.ErrNull {
		t.Errorf("%s: Node(%d) = %+v, %d", what, id, n, e)
	}
	for _, x := range []int{math.MinInt, -1, 0, 1, id, math.MaxInt} {
		if e := g.SetRef(id, x, 0); e != api.ErrNull {
			t.Errorf("%s: SetRef(%d, %d, 0) = %d", what, id, x, e)
		}
		if e := g.SetRef(id, 0, x); e != api.ErrNull {
			t.Errorf("%s: SetRef(%d, 0, %d) = %d", what, id, x, e)
		}
		if e := g.SetNum(id, x, 0); e != api.ErrNull {
			t.Errorf("%s: SetNum(%d, %d, 0) = %d", what, id, x, e)
		}
	}
	if e := g.Done(id); e != api.ErrNull {
		t.Errorf("%s: Done(%d) = %d", what, id, e)
	}
	if l := g.Holds(id); len(l) != 0 {
		t.Errorf("%s: Holds(%d) = %v", what, id, l)
	}
	if to, kind := g.Aim(id); to != 0 || kind != 0 {
		t.Errorf("%s: Aim(%d) = %d, %d", what, id, to, kind)
	}
}

// wantEmpty holds that a graph has no nodes.
func wantEmpty(t *testing.T, what string, g *graph.Graph) {
	t.Helper()
	for _, id := range edges {
		wantNoNode(t, what, g, id)
	}
	if l := g.Ids(); len(l) != 0 {
		t.Errorf("%s: Ids() = %v", what, l)
	}
	if n := g.Words(); n != 0 {
		t.Errorf("%s: Words() = %d", what, n)
	}
	if n := g.Keep(); n != 0 {
		t.Errorf("%s: Keep() = %d", what, n)
	}
	if n := g.Keep(edges...); n != 0 {
		t.Errorf("%s: Keep of many = %d", what, n)
	}
}

// wantNoClass holds that nothing can be added to a graph, since it has no classes.
func wantNoClass(t *testing.T, what string, g *graph.Graph) {
	t.Helper()
	for _, x := range edges {
		for _, list := range [][3]int{{x, 1, 0}, {1, x, 0}, {1, 1, x}} {
			if e := g.Add(list[0], list[1], list[2]); e != api.ErrClass {
				t.Errorf("%s: Add(%v) = %d", what, list, e)
			}
		}
	}
}

// The chapter's example.
func TestExample(t *testing.T) {
	c, _ := class.New(api.Class{Kind: api.Weak, Refs: 1, Data: 2})
	g := graph.New(c)
	g.Add(1, 1, 0)
	g.Add(2, 1, 0)
	if e := g.SetRef(1, 0, 2); e != api.OK {
		t.Errorf("SetRef(1, 0, 2) = %d", e)
	}
	if l := g.Holds(1); len(l) != 0 {
		t.Errorf("Holds(1) = %v", l)
	}
	if to, kind := g.Aim(1); to != 2 || kind != 4 {
		t.Errorf("Aim(1) = %d, %d", to, kind)
	}
}

// P9.1: a new graph is empty, whatever its table is; of no table, and of one without classes, nothing can be added.
func TestNew(t *testing.T) {
	wantEmpty(t, "a new graph", graph.New(table(t)))
	none, _ := class.New()
	for what, c := range map[string]*class.Table{"of no table": nil, "of no classes": none} {
		g := graph.New(c)
		if g == nil {
			t.Fatalf("%s: New is nil", what)
		}
		wantEmpty(t, what, g)
		wantNoClass(t, what, g)
		wantEmpty(t, what+", after Add", g)
	}
}

// P9.1: an identifier is 1 or more, and no other node's.
func TestAddIds(t *testing.T) {
	for _, first := range edges {
		w := twinOf(t, "identifiers")
		w.add(first, pair, 0)
		w.check()
		for _, id := range edges {
			w.add(id, bare, 0)
		}
		w.check()
	}
}

// P9.1: the same in whatever order they come, and a second node of an identifier leaves the first one as it is.
func TestAddTwice(t *testing.T) {
	for _, order := range [][]int{{1, 2, 3}, {3, 2, 1}, {2, 3, 1}, {math.MaxInt, 1, 1 << 32}, {1 << 32, math.MaxInt - 1, 2}} {
		w := twinOf(t, "twice")
		for _, id := range order {
			w.add(id, final, 0)
			w.setRef(id, 1, order[0])
			w.setNum(id, 0, id)
			w.done(order[0])
			w.add(id, bare, 0)
			w.add(id, final, 0)
			w.add(order[0], array, 3)
			w.check()
		}
	}
}

// P9.1: the error of layer 5's Shape comes ahead of that of the identifier.
func TestAddErrors(t *testing.T) {
	w := filled(t, "errors")
	for _, x := range []struct {
		id, class, length int
		want              api.Errno
	}{
		{1, 0, 0, api.ErrClass}, {1, -1, 0, api.ErrClass}, {1, lastClass + 1, 0, api.ErrClass}, {0, 0, 0, api.ErrClass},
		{10, 0, -1, api.ErrClass}, {-5, lastClass + 1, 31, api.ErrClass}, {1, math.MaxInt, 99, api.ErrClass},
		{1, bare, 1, api.ErrArg}, {1, bare, -1, api.ErrArg}, {1, weak, 31, api.ErrArg}, {1, array, -1, api.ErrArg},
		{0, pair, 1, api.ErrArg}, {10, pair, math.MinInt, api.ErrArg}, {0, array, math.MinInt, api.ErrArg},
		{1, array, 31, api.ErrLarge}, {0, array, 31, api.ErrLarge}, {-1, array, math.MaxInt, api.ErrLarge},
		{10, finalArray, 31, api.ErrLarge}, {math.MinInt, finalArray, 4096, api.ErrLarge},
		{0, array, 30, api.ErrArg}, {10, bare, 0, api.ErrArg}, {math.MaxInt, array, 1, api.ErrArg}, {-1, soft, 0, api.ErrArg},
	} {
		if e := w.graph.Add(x.id, x.class, x.length); e != x.want {
			t.Errorf("Add(%d, %d, %d) = %d, want %d", x.id, x.class, x.length, e, x.want)
		}
		w.check()
	}
}

// P9.1: each class with each length of interest, with identifiers that can be and ones that can't.
func TestAddShapes(t *testing.T) {
	w := twinOf(t, "shapes")
	next := 1
	for c := -1; c <= lastClass+1; c++ {
		for _, length := range edges {
			for _, id := range []int{math.MinInt, -1, 0, next, 1} {
				w.add(id, c, length)
			}
			if w.model.has(next) {
				next++
			}
		}
	}
	for _, c := range edges {
		w.add(next, c, 0)
		if w.model.has(next) {
			next++
		}
	}
	w.check()
}

// P9.1: the references and numbers of a new node are 0, and it is Final if its class is.
func TestAddNew(t *testing.T) {
	for c := 1; c <= lastClass; c++ {
		w := twinOf(t, "a new node")
		w.add(5, c, 0)
		refs, data, _ := shape(c, 0)
		want := api.Node{Id: 5, Class: c, Refs: make([]int, refs), Data: make([]int, data), Final: sample[c-1].Final}
		if n, e := w.graph.Node(5); !sameNode(n, want) || e != api.OK {
			t.Errorf("Node(5) = %+v, %d, want %+v", n, e, want)
		}
		w.check()
	}
	for length := range mostFields + 1 {
		w := twinOf(t, "a new array")
		w.add(1, array, length)
		w.add(2, finalArray, length)
		for id := 1; id <= 2; id++ {
			want := api.Node{Id: id, Class: array + id - 1, Refs: make([]int, length), Final: id == 2}
			if n, e := w.graph.Node(id); !sameNode(n, want) || e != api.OK {
				t.Errorf("Node(%d) = %+v, %d, want %+v", id, n, e, want)
			}
		}
		w.check()
	}
}

// P9.1: what is no node is found by no call, in a graph with some.
func TestNoNode(t *testing.T) {
	w := filled(t, "no node")
	for _, id := range w.model.points() {
		if !w.model.has(id) {
			wantNoNode(t, w.what, w.graph, id)
		}
	}
	w.check()
}

// R3: the lists that calls return are copies, up to what is behind their ends.
func TestCopies(t *testing.T) {
	w := filled(t, "copies")
	spoil := func(lists ...[]int) {
		for _, l := range lists {
			for i := range l[:cap(l)] {
				l[:cap(l)][i] = -77
			}
		}
	}
	for _, id := range w.model.ids() {
		n, _ := w.graph.Node(id)
		m, _ := w.graph.Node(id)
		spoil(n.Refs, n.Data, w.graph.Holds(id), w.graph.Ids())
		if want, _ := w.model.node(id); !sameNode(m, want) {
			t.Errorf("Node(%d) = %+v, want %+v", id, m, want)
		}
		w.check()
	}
	n, _ := w.graph.Node(10 * weak)
	w.setRef(10*weak, 1, 10)
	w.setNum(10*weak, 0, 12345)
	w.done(10 * final)
	if n.Refs[1] == 10 || n.Data[0] == 12345 {
		t.Errorf("a node that was told before has changed: %+v", n)
	}
	w.check()
}

// P9.1: every number as a field, and the errors in their order.
func TestFields(t *testing.T) {
	w := filled(t, "fields")
	for _, id := range append(w.model.ids(), 0, -1, 1, math.MinInt) {
		for _, field := range edges {
			for _, to := range []int{math.MinInt, -1, 0, 1, id, 10, 70, 71, math.MaxInt - 1, math.MaxInt} {
				w.setRef(id, field, to)
				w.setNum(id, field, to)
			}
			w.read(id)
		}
	}
	w.check()
}

// P9.1: which error comes first.
func TestSetErrors(t *testing.T) {
	w := filled(t, "errors of SetRef and SetNum")
	for _, x := range []struct {
		id, field, to int
		want          api.Errno
	}{
		{1, 0, 10, api.ErrNull}, {1, -1, 10, api.ErrNull}, {1, 0, 1, api.ErrNull}, {0, 0, 0, api.ErrNull}, {-10, 99, -1, api.ErrNull},
		{10 * pair, 2, 10, api.ErrArg}, {10 * pair, -1, 0, api.ErrArg}, {10 * pair, 2, 1, api.ErrArg}, {10 * pair, -1, -1, api.ErrArg},
		{10, 0, 0, api.ErrArg}, {10, 0, 10, api.ErrArg}, {7, 4, 7, api.ErrArg}, {8, 30, 99, api.ErrArg}, {10 * array, 0, 0, api.ErrArg},
		{10 * manyData, 0, 1, api.ErrArg}, {10 * soft, 1, 0, api.ErrArg}, {10 * phantom, 28, 1, api.ErrArg},
		{10 * pair, 0, 1, api.ErrNull}, {10 * pair, 1, -1, api.ErrNull}, {10 * soft, 0, 9, api.ErrNull}, {7, 3, math.MinInt, api.ErrNull},
		{10 * pair, 1, -10, api.ErrNull}, {8, 29, math.MaxInt - 1, api.ErrNull},
	} {
		if e := w.graph.SetRef(x.id, x.field, x.to); e != x.want {
			t.Errorf("SetRef(%d, %d, %d) = %d, want %d", x.id, x.field, x.to, e, x.want)
		}
		w.check()
	}
	for _, x := range []struct {
		id, field int
		want      api.Errno
	}{
		{1, 0, api.ErrNull}, {1, -1, api.ErrNull}, {0, 0, api.ErrNull}, {-10 * pair, 5, api.ErrNull},
		{10 * pair, 1, api.ErrArg}, {10 * pair, -1, api.ErrArg}, {10, 0, api.ErrArg}, {8, 0, api.ErrArg},
		{10 * manyRefs, 0, api.ErrArg}, {10 * soft, 2, api.ErrArg}, {10 * manyData, 30, api.ErrArg}, {10 * weak, 4, api.ErrArg},
	} {
		if e := w.graph.SetNum(x.id, x.field, 6); e != x.want {
			t.Errorf("SetNum(%d, %d, 6) = %d, want %d", x.id, x.field, e, x.want)
		}
		w.check()
	}
}

// P9.1: each reference of each node is set to each node and back to 0, and it alone.
func TestSetRef(t *testing.T) {
	w := filled(t, "SetRef")
	for _, id := range w.model.ids() {
		n, _ := w.model.node(id)
		for field := range n.Refs {
			for _, to := range append(w.model.ids(), 0) {
				if e := w.graph.SetRef(id, field, to); e != api.OK {
					t.Errorf("SetRef(%d, %d, %d) = %d", id, field, to, e)
				}
				w.model.setRef(id, field, to)
				w.read(id)
			}
		}
		w.check()
	}
}

// P9.1: each number of each node is set to any number, and it alone.
func TestSetNum(t *testing.T) {
	w := filled(t, "SetNum")
	for _, id := range w.model.ids() {
		n, _ := w.model.node(id)
		for field := range n.Data {
			for _, x := range edges {
				if e := w.graph.SetNum(id, field, x); e != api.OK {
					t.Errorf("SetNum(%d, %d, %d) = %d", id, field, x, e)
				}
				w.model.setNum(id, field, x)
				w.read(id)
			}
		}
		w.check()
	}
}

// P9.1: after Done a node is not Final, whether it was or not, and all else is as it was.
func TestDone(t *testing.T) {
	w := filled(t, "Done")
	for _, id := range w.model.ids() {
		for range 2 {
			if e := w.graph.Done(id); e != api.OK {
				t.Errorf("Done(%d) = %d", id, e)
			}
			w.model.done(id)
			if n, _ := w.graph.Node(id); n.Final {
				t.Errorf("Node(%d) is Final after Done", id)
			}
			w.check()
		}
	}
	w.add(3, final, 0)
	w.check()
}

// P9.2: the identifiers ascend, however many there are, and in whatever order they came.
func TestIds(t *testing.T) {
	for count := range 40 {
		up, down, mixed := twinOf(t, "upwards"), twinOf(t, "downwards"), twinOf(t, "mixed")
		for i := range count {
			up.add(i+1, bare, 0)
			down.add(count-i, bare, 0)
			mixed.add(i*17%41+1, bare, 0)
		}
		for _, w := range []twin{up, down, mixed} {
			if l := w.graph.Ids(); len(l) != count || !slices.IsSorted(l) {
				t.Errorf("%s: Ids() = %v", w.what, l)
			}
			w.check()
		}
	}
}

// P9.2: what a node holds comes in the order of its references, as often as it is held, and without 0.
func TestHolds(t *testing.T) {
	w := twinOf(t, "Holds")
	w.add(9, array, 8)
	for _, id := range []int{4, 5, 6} {
		w.add(id, bare, 0)
	}
	for _, x := range []struct{ refs, want []int }{
		{[]int{0, 0, 0, 0, 0, 0, 0, 0}, nil},
		{[]int{4, 0, 0, 0, 0, 0, 0, 0}, []int{4}},
		{[]int{0, 0, 0, 0, 0, 0, 0, 6}, []int{6}},
		{[]int{6, 5, 4, 0, 4, 5, 6, 9}, []int{6, 5, 4, 4, 5, 6, 9}},
		{[]int{9, 9, 9, 9, 9, 9, 9, 9}, []int{9, 9, 9, 9, 9, 9, 9, 9}},
		{[]int{0, 5, 0, 5, 0, 4, 0, 5}, []int{5, 5, 4, 5}},
	} {
		for field, to := range x.refs {
			w.setRef(9, field, to)
		}
		if l := w.graph.Holds(9); !slices.Equal(l, x.want) {
			t.Errorf("of %v, Holds(9) = %v, want %v", x.refs, l, x.want)
		}
		w.check()
	}
}

// P9.2: a node of a reference class has a referent, which it doesn't hold, but for by another reference.
func TestAim(t *testing.T) {
	for _, c := range referenceClasses {
		w := twinOf(t, "Aim")
		w.add(1, c, 0)
		w.add(2, c, 0)
		w.add(3, pair, 0)
		kind := sample[c-1].Kind
		for _, to := range []int{0, 2, 3, 1, 0} {
			w.setRef(1, 0, to)
			if x, k := w.graph.Aim(1); x != to || k != kind {
				t.Errorf("class %d: Aim(1) = %d, %d, want %d, %d", c, x, k, to, kind)
			}
			if l := w.graph.Holds(1); len(l) != 0 {
				t.Errorf("class %d: Holds(1) = %v", c, l)
			}
			w.check()
		}
		w.setRef(1, 0, 3)
		w.setRef(1, 1, 3) // a Soft node may have no such reference
		if x, k := w.graph.Aim(1); x != 3 || k != kind {
			t.Errorf("class %d: Aim(1) = %d, %d, want 3, %d", c, x, k, kind)
		}
		w.check()
	}
}

// P9.2: the referent is held where another reference goes to it, too, as often as one does.
func TestAimHeldToo(t *testing.T) {
	w := twinOf(t, "held too")
	w.add(1, weak, 0)
	w.add(2, bare, 0)
	for field := range 3 {
		w.setRef(1, field, 2)
	}
	if l := w.graph.Holds(1); !slices.Equal(l, []int{2, 2}) {
		t.Errorf("Holds(1) = %v", l)
	}
	if to, kind := w.graph.Aim(1); to != 2 || kind != api.Weak {
		t.Errorf("Aim(1) = %d, %d", to, kind)
	}
	w.check()
}

// P9.2: other nodes have no referent, wherever their first reference goes.
func TestAimOfOthers(t *testing.T) {
	for _, c := range []int{final, pair, manyRefs} {
		w := twinOf(t, "Aim of others")
		w.add(1, c, 0)
		w.add(2, array, 1)
		w.add(3, soft, 0)
		for _, id := range []int{1, 2} {
			w.setRef(id, 0, 3)
			if to, kind := w.graph.Aim(id); to != 0 || kind != 0 {
				t.Errorf("class %d: Aim(%d) = %d, %d", c, id, to, kind)
			}
			if l := w.graph.Holds(id); !slices.Equal(l, []int{3}) {
				t.Errorf("class %d: Holds(%d) = %v", c, id, l)
			}
		}
		w.check()
	}
}

// P9.2: the words of all nodes, from none to one of each class and arrays of each length.
func TestWords(t *testing.T) {
	w := twinOf(t, "Words")
	next, sum := 1, 0
	add := func(c, length int) {
		t.Helper()
		w.add(next, c, length)
		next++
		refs, data, _ := shape(c, length)
		if sum += firstWords + refs + data; w.graph.Words() != sum {
			t.Errorf("after Add of class %d and length %d, Words() = %d, want %d", c, length, w.graph.Words(), sum)
		}
	}
	for c := 1; c <= lastClass; c++ {
		add(c, 0)
	}
	for length := range mostFields + 1 {
		add(array, length)
		add(finalArray, length)
	}
	for id := 1; id < next; id++ {
		n, _ := w.model.node(id)
		sum -= firstWords + len(n.Refs) + len(n.Data)
		w.keep(w.model.ids()[1:]...)
		if w.graph.Words() != sum {
			t.Errorf("without %d, Words() = %d, want %d", id, w.graph.Words(), sum)
		}
	}
	w.check()
}

// P9.3: of a few nodes that refer to one another in all ways, each choice is kept.
func TestKeep(t *testing.T) {
	ids := []int{3, 1, 9, 4}
	for chosen := range 1 << len(ids) {
		w := twinOf(t, "Keep")
		for i, id := range ids {
			w.add(id, []int{weak, final, array, softOfTwo}[i], []int{0, 0, 4, 0}[i])
		}
		for i, id := range ids {
			n, _ := w.model.node(id)
			for field := range n.Refs {
				w.setRef(id, field, ids[(i+field)%len(ids)])
			}
			for field := range n.Data {
				w.setNum(id, field, id)
			}
		}
		var kept []int
		for i, id := range ids {
			if chosen>>i&1 == 1 {
				kept = append(kept, id)
			}
		}
		if n := w.graph.Keep(kept...); n != len(ids)-len(kept) {
			t.Errorf("Keep(%v) = %d", kept, n)
		}
		w.model.keep(kept)
		w.check()
		if n := w.graph.Keep(kept...); n != 0 {
			t.Errorf("Keep(%v) once more = %d", kept, n)
		}
		w.check()
	}
}

// P9.3: identifiers that are no nodes, and ones that come more than once, make no difference.
func TestKeepOthers(t *testing.T) {
	w := filled(t, "Keep with others")
	w.keep(slices.Concat(edges, w.model.ids(), w.model.ids())...)
	w.check()
	w.keep(10*weak, 10*weak, -10*pair, 0, 10*final, 11, 10*weak, 7, math.MinInt, 10*phantom)
	w.check()
	w.keep(7, 7)
	w.check()
	w.keep(-7, 8, 1<<32|7)
	w.check()
	wantEmpty(t, "after Keep of what is no node", w.graph)
}

// P9.3: a number that is as an identifier is no reference: it stays as it is.
func TestKeepLeavesNumbers(t *testing.T) {
	w := twinOf(t, "numbers")
	w.add(1, weak, 0)
	w.add(2, final, 0)
	w.setNum(1, 0, 2)
	w.setNum(1, 3, 1)
	w.keep(1)
	if n, _ := w.graph.Node(1); !slices.Equal(n.Data, []int{2, 0, 0, 1}) {
		t.Errorf("Node(1) = %+v", n)
	}
	w.check()
}

// P9.1, P9.3: an identifier that is gone is a new node's, to which no reference goes and which is as its class states.
func TestAddAfterKeep(t *testing.T) {
	w := twinOf(t, "Add after Keep")
	w.add(1, weak, 0)
	w.add(2, final, 0)
	for field := range 3 {
		w.setRef(1, field, 2)
	}
	w.setNum(2, 0, 5)
	w.setRef(2, 0, 1)
	w.done(2)
	w.keep(1)
	wantNoNode(t, "gone", w.graph, 2)
	w.setRef(1, 1, 2)
	w.check()
	w.add(2, array, 3)
	w.check()
	w.setRef(1, 0, 2)
	w.keep(1)
	w.add(2, final, 0)
	if n, _ := w.graph.Node(2); !n.Final || n.Data[0] != 0 || n.Refs[0] != 0 {
		t.Errorf("Node(2) = %+v", n)
	}
	if to, kind := w.graph.Aim(1); to != 0 || kind != api.Weak {
		t.Errorf("Aim(1) = %d, %d", to, kind)
	}
	w.check()
}

// R3: what Keep is passed stays as it is, up to what is behind its end.
func TestKeepLeavesItsArguments(t *testing.T) {
	w := filled(t, "arguments")
	list := []int{50, 10, -3, 50, 20, 7, 99, 8, 1}
	before := slices.Clone(list)
	w.keep(list[:5]...)
	if !slices.Equal(list, before) {
		t.Errorf("Keep changed its arguments to %v", list)
	}
	w.check()
	clear(list)
	w.check()
}

// step makes one call that hangs on a count, on nodes that are, were, or will be.
func (w twin) step(i int) {
	mixed := i * 2654435761 >> 7 & 0xffffff
	id, to := mixed%23, mixed>>5%23
	switch field := mixed >> 11 % 5; mixed >> 14 % 16 {
	case 0, 1, 2, 3:
		w.add(id, mixed>>4%(lastClass+2), 0)
	case 4:
		w.add(id, array, mixed>>6%33)
	case 5, 6, 7, 8, 9, 10, 11:
		w.setRef(id, field-1, to)
	case 12, 13:
		w.setNum(id, field-1, mixed)
	case 14:
		w.done(id)
	default:
		ids := w.model.ids()
		w.keep(slices.DeleteFunc(ids, func(x int) bool { return x%7 == id%7 })...)
	}
}

// P9.1 to P9.3: many calls of all sorts.
func TestManyCalls(t *testing.T) {
	w := twinOf(t, "many calls")
	for i := range 4000 {
		w.step(i)
		if l := w.graph.Ids(); !slices.Equal(l, w.model.ids()) || w.graph.Words() != w.model.words() {
			t.Fatalf("call %d: Ids() = %v, Words() = %d, want %v, %d", i, l, w.graph.Words(), w.model.ids(), w.model.words())
		}
		for id := range 24 {
			w.read(id)
		}
	}
	w.check()
}

// R6: graphs leave one another as they are, though they have one table, and the same calls have the same results.
func TestTwoGraphs(t *testing.T) {
	c := table(t)
	of := func(what string) twin { return twin{t: t, what: what, graph: graph.New(c), model: &model{}} }
	one, two, three := of("one"), of("two"), of("three")
	for i := range 500 {
		one.step(i)
		two.step(7*i + 1)
		three.step(i)
	}
	one.check()
	two.check()
	three.check()
}

// R6: no answer hangs on the order in which a map is gone through, so the same calls on many graphs answer the same.
func TestSameEachTime(t *testing.T) {
	for range 30 {
		w := filled(t, "each time")
		w.check()
		w.keep(10*weak, 10*softOfTwo, 10*manyRefs, 8, 10*phantom, math.MaxInt)
		w.check()
	}
}

// P9.4: a nil graph has no nodes and no classes.
func TestNil(t *testing.T) {
	var g *graph.Graph
	wantEmpty(t, "nil", g)
	wantNoClass(t, "nil", g)
	wantEmpty(t, "nil, after Add", g)
}
