package scavenge_test

import (
	"fmt"
	"slices"
	"testing"

	"gleaning/api"
	"gleaning/card"
	"gleaning/class"
	"gleaning/head"
	"gleaning/mem"
	"gleaning/object"
	"gleaning/scavenge"
	"gleaning/space"
)

// The chapters' numbers, written out, so that a limit taken wrongly is seen.
const (
	mostWords  = 4096
	mostLength = 30
	mostAge    = 7
	cardWords  = 16
)

// sample has classes of each kind; numbered from 1 on.
var sample = []api.Class{
	{Kind: api.Plain, Refs: 1, Data: 1},              // 1
	{Kind: api.Array},                                // 2
	{Kind: api.Plain},                                // 3
	{Kind: api.Plain, Refs: 2, Final: true},          // 4
	{Kind: api.Plain, Data: 3},                       // 5
	{Kind: api.Soft, Refs: 1, Data: 2},               // 6
	{Kind: api.Weak, Refs: 2, Data: 3},               // 7
	{Kind: api.Phantom, Refs: 1, Data: 2},            // 8
	{Kind: api.Array, Final: true},                   // 9
	{Kind: api.Plain, Refs: 3, Data: 4, Final: true}, // 10
}

// The classes by the names that the tests use.
const (
	pair    = 1 // 4 words: a reference and a number
	array   = 2
	bare    = 3 // 2 words
	final   = 4 // 4 words: two references
	numbers = 5 // 5 words: three numbers
	soft    = 6 // 5 words: a reference and two numbers
	weak    = 7 // 7 words: two references and three numbers
	phantom = 8 // 5 words
	mix     = 10
)

// world is an arena, where things are laid into it, and the cards.
type world struct {
	t       *testing.T
	a       *mem.Arena
	classes []api.Class
	c       *class.Table
	s       object.Store
	y       scavenge.Young
	// the cards cover the addresses from one on, below another one
	cardFrom, cardTo int
	dirty            *card.Table
}

// newWorld is an arena whose spaces are Old, Eden and the halves, from 1 on, and whose cards cover Old.
func newWorld(t *testing.T, old, eden, half, threshold int) *world {
	t.Helper()
	l, e := space.Split(1, old, eden, half, half)
	if e != api.OK {
		t.Fatalf("space.Split: %d", e)
	}
	y := scavenge.Young{Old: l[0], Eden: l[1], From: l[2], To: l[3], Threshold: threshold}
	return worldOf(t, l[3].End+3, y, 1, 1+old)
}

// worldOf is an arena of so many words, each of them different, and none of them a header.
func worldOf(t *testing.T, words int, y scavenge.Young, cardFrom, cardTo int) *world {
	t.Helper()
	c, e := class.New(sample...)
	if e != api.OK {
		t.Fatalf("class.New: %d", e)
	}
	a := mem.New(words)
	for at := range a.Len() {
		a.Store(at, -100-at)
	}
	return &world{
		t: t, a: a, classes: sample, c: c, s: object.On(a, c), y: y,
		cardFrom: cardFrom, cardTo: cardTo, dirty: card.New(cardFrom, cardTo),
	}
}

// put lays an object at a space's end.
func (w *world) put(x *space.Space, n, length int) int {
	w.t.Helper()
	words, e := w.c.Words(n, length)
	if e != api.OK {
		w.t.Fatalf("Words(%d, %d): %d", n, length, e)
	}
	at, grown, e := x.Take(words)
	if e != api.OK {
		w.t.Fatalf("Take(%d) of %+v: %d", words, *x, e)
	}
	*x = grown
	if e := w.s.Lay(at, n, length); e != api.OK {
		w.t.Fatalf("Lay(%d, %d, %d): %d", at, n, length, e)
	}
	_, data, _ := w.s.Shape(at)
	for field := range data {
		w.s.SetNum(at, field, 1000*at+field)
	}
	return at
}

// gap lays a gap at a space's end.
func (w *world) gap(x *space.Space, words int) {
	w.t.Helper()
	at, grown, e := x.Take(words)
	if e != api.OK {
		w.t.Fatalf("Take(%d) of %+v: %d", words, *x, e)
	}
	*x = grown
	w.s.Gap(at, words)
}

// link lets references of an object lead to others, from the first one on, and touches the cards of old ones.
func (w *world) link(at int, to ...int) {
	w.t.Helper()
	for field, x := range to {
		if e := w.s.SetRef(at, field, x); e != api.OK {
			w.t.Fatalf("SetRef(%d, %d, %d): %d", at, field, x, e)
		}
	}
	if w.y.Old.Has(at) {
		w.dirty.Touch(at)
	}
}

// change changes an object's head.
func (w *world) change(at int, how func(h *head.Head)) {
	w.t.Helper()
	h, e := w.s.Head(at)
	if e != api.OK {
		w.t.Fatalf("Head(%d): %d", at, e)
	}
	how(&h)
	if e := w.s.SetHead(at, h); e != api.OK {
		w.t.Fatalf("SetHead(%d, %+v): %d", at, h, e)
	}
}

func (w *world) setAge(at, age int) {
	w.t.Helper()
	w.change(at, func(h *head.Head) { h.Age = age })
}

func (w *world) headOf(at int) head.Head {
	w.t.Helper()
	h, e := w.s.Head(at)
	if e != api.OK {
		w.t.Fatalf("Head(%d): %d", at, e)
	}
	return h
}

func (w *world) refOf(at, field int) int {
	w.t.Helper()
	x, e := w.s.Ref(at, field)
	if e != api.OK {
		w.t.Fatalf("Ref(%d, %d): %d", at, field, e)
	}
	return x
}

func (w *world) words() []int {
	list, _ := w.a.Words(0, w.a.Len())
	return list
}

// thing is an object as its words tell it.
type thing struct {
	at, words, class, age, forward, length int
	mark, final, done                      bool
	refs, nums                             []int
}

// state is all that a run is given, as it was ahead of it.
type state struct {
	words   []int
	classes []api.Class
	y       scavenge.Young
	roots   []int
	dirty   func(at int) bool
}

// decode takes a header apart by division.
func decode(word int) (thing, bool) {
	bit := func(value int) bool { return word/value%2 == 1 }
	x := thing{class: word % 64, age: word / 64 % 16, mark: bit(1024), final: bit(2048), done: bit(4096), forward: word / 8192}
	return x, word >= 0 && x.age <= mostAge && x.forward < mostWords && !(x.final && x.done)
}

// at is what words tell there is at an address; a gap's class is 0.
func (s state) at(at int) (thing, bool) {
	if at < 1 || at >= len(s.words) {
		return thing{}, false
	}
	x, ok := decode(s.words[at])
	if !ok || x.class > len(s.classes) {
		return thing{}, false
	}
	x.at = at
	if x.class == 0 && x.mark {
		x.words = 1
		return x, true
	}
	rest := s.words[at:]
	if len(rest) < 2 {
		return thing{}, false
	}
	if x.class == 0 {
		x.words = rest[1]
		return x, x.words >= 2 && x.words <= len(rest)
	}
	return s.object(x, rest)
}

// object is what the words of an object tell, if they are one's.
func (s state) object(x thing, rest []int) (thing, bool) {
	c := s.classes[x.class-1]
	x.length = rest[1]
	if x.length < 0 || x.length > mostLength || x.length > 0 && c.Kind != api.Array {
		return thing{}, false
	}
	refs := c.Refs + x.length
	x.words = 2 + refs + c.Data
	if x.words > len(rest) {
		return thing{}, false
	}
	x.refs = slices.Clone(rest[2 : 2+refs])
	x.nums = slices.Clone(rest[2+refs : x.words])
	return x, true
}

// walk is the objects of a space; false: it has words that are neither an object nor a gap, or too many.
func (s state) walk(x space.Space) ([]thing, bool) {
	var list []thing
	for at := x.From; at < x.Top; {
		what, ok := s.at(at)
		if !ok || at+what.words > x.Top {
			return nil, false
		}
		if what.class != 0 {
			list = append(list, what)
		}
		at += what.words
	}
	return list, true
}

func addresses(list []thing) []int {
	var all []int
	for _, x := range list {
		all = append(all, x.at)
	}
	return all
}

func (s state) spaces() []space.Space {
	return []space.Space{s.y.Old, s.y.Eden, s.y.From, s.y.To}
}

// mayBe tells whether the spaces and the Threshold may be passed: it counts in how many spaces each address is.
func (s state) mayBe() bool {
	in := make([]int, len(s.words))
	for _, x := range s.spaces() {
		if x.From < 1 || x.Top < x.From || x.End < x.Top || x.End > len(s.words) || x.End > mostWords {
			return false
		}
		for at := x.From; at < x.End; at++ {
			in[at]++
			if in[at] > 1 {
				return false
			}
		}
	}
	return s.y.To.Top == s.y.To.From && s.y.To.End-s.y.To.From == s.y.From.End-s.y.From.From &&
		s.y.Threshold >= 0 && s.y.Threshold <= mostAge
}

// err is the error that the chapter names.
func (s state) err() api.Errno {
	if !s.mayBe() {
		return api.ErrArg
	}
	old, ok := s.walk(s.y.Old)
	eden, ok1 := s.walk(s.y.Eden)
	from, ok2 := s.walk(s.y.From)
	if !ok || !ok1 || !ok2 {
		return api.ErrForm
	}
	young := slices.Concat(eden, from)
	leads := append(addresses(young), addresses(old)...)
	leads = append(leads, 0)
	all := slices.Clone(s.roots)
	for _, x := range slices.Concat(old, young) {
		all = append(all, x.refs...)
	}
	for _, to := range all {
		if !slices.Contains(leads, to) {
			return api.ErrForm
		}
	}
	used := s.y.Eden.Top - s.y.Eden.From + s.y.From.Top - s.y.From.From
	if s.y.Old.End-s.y.Old.Top < used {
		return api.ErrFull
	}
	for _, x := range old {
		if hasAny(x.refs, addresses(young)) && !s.dirty(x.at) {
			return api.ErrState
		}
	}
	return api.OK
}

func hasAny(list, of []int) bool {
	return slices.ContainsFunc(list, func(x int) bool { return slices.Contains(of, x) })
}

// run runs, and holds all that it does against the chapter.
func (w *world) run(what string, roots ...int) ([]int, api.Errno) {
	w.t.Helper()
	s := state{words: w.words(), classes: w.classes, y: w.y, dirty: w.dirty.Dirty}
	if roots != nil {
		s.roots = slices.Clone(roots)
	}
	want := s.err()
	cards := w.dirty.All()
	held := append(slices.Clone(roots), -7, -8, -9)
	passed := held[:len(roots)]
	got, y, e := scavenge.Run(w.a, w.c, w.y, passed, w.dirty)
	if e != want {
		w.t.Fatalf("%s: Run is error %d, want %d", what, e, want)
	}
	if !slices.Equal(held, append(slices.Clone(roots), -7, -8, -9)) {
		w.t.Errorf("%s: the roots that were passed became %v", what, held)
	}
	if e != api.OK {
		w.wantUnchanged(what, s, cards, got, y)
		return nil, e
	}
	w.wantMoved(what, s, got, y)
	for i := range got {
		got[i]++
	}
	if !slices.Equal(passed, roots) {
		w.t.Errorf("%s: the roots that are returned share memory with those that were passed", what)
	}
	for i := range got {
		got[i]--
	}
	w.y = y
	return got, e
}

// good is a run without an error.
func (w *world) good(what string, roots ...int) []int {
	w.t.Helper()
	got, e := w.run(what, roots...)
	if e != api.OK {
		w.t.Fatalf("%s: Run is error %d", what, e)
	}
	return got
}

// fails is a run with an error.
func (w *world) fails(what string, want api.Errno, roots ...int) {
	w.t.Helper()
	if _, e := w.run(what, roots...); e != want {
		w.t.Errorf("%s: Run is error %d, want %d", what, e, want)
	}
}

func (w *world) wantUnchanged(what string, s state, cards, got []int, y scavenge.Young) {
	w.t.Helper()
	if len(got) != 0 || y != (scavenge.Young{}) {
		w.t.Errorf("%s: beside an error Run is %v, %+v", what, got, y)
	}
	if !slices.Equal(w.words(), s.words) {
		w.t.Errorf("%s: with an error, words changed", what)
	}
	if !slices.Equal(w.dirty.All(), cards) {
		w.t.Errorf("%s: with an error, the dirty cards became %v, want %v", what, w.dirty.All(), cards)
	}
}

// follower pairs previous addresses with new ones.
type follower struct {
	t             *testing.T
	what          string
	before, after state
	to            map[int]int
	open          []int
}

func (f *follower) pair(from, to int) {
	f.t.Helper()
	if had, ok := f.to[from]; ok {
		if had != to {
			f.t.Fatalf("%s: one reference to %d leads to %d, another one to %d", f.what, from, had, to)
		}
		return
	}
	f.to[from] = to
	f.open = append(f.open, from)
}

// pairAll pairs references; there must be as many.
func (f *follower) pairAll(from, to []int) {
	f.t.Helper()
	if len(from) != len(to) {
		f.t.Fatalf("%s: %v became %v", f.what, from, to)
	}
	for i, x := range from {
		f.pair(x, to[i])
	}
}

// follow pairs what is reached from the roots and the old objects: that is what survives.
func (f *follower) follow(old []thing, got []int) {
	f.t.Helper()
	f.to[0] = 0
	for _, x := range old {
		f.pair(x.at, x.at)
	}
	f.pairAll(f.before.roots, got)
	for len(f.open) > 0 {
		from := f.open[0]
		f.open = f.open[1:]
		x, _ := f.before.at(from)
		y, ok := f.after.at(f.to[from])
		if !ok || y.class == 0 {
			f.t.Fatalf("%s: a reference to %d leads to %d, where there is no object", f.what, from, f.to[from])
		}
		f.pairAll(x.refs, y.refs)
	}
}

// wantMoved holds what a run without an error did.
func (w *world) wantMoved(what string, s state, got []int, y scavenge.Young) {
	w.t.Helper()
	after := state{words: w.words(), classes: w.classes, y: y}
	w.wantSpaces(what, s, y)
	old, _ := s.walk(s.y.Old)
	nowOld, ok := after.walk(y.Old)
	nowFrom, ok1 := after.walk(y.From)
	if !ok || !ok1 {
		w.t.Fatalf("%s: Old or From can't be visited", what)
	}
	f := &follower{t: w.t, what: what, before: s, after: after, to: map[int]int{}}
	f.follow(old, got)
	var images []int
	promoted, kept := 0, 0
	for from, to := range f.to {
		if from == 0 {
			continue
		}
		images = append(images, to)
		x, _ := s.at(from)
		if s.y.Old.Has(from) {
			continue
		}
		w.wantObject(what, s, after, from, to)
		if y.From.Has(to) {
			kept += x.words
		} else {
			promoted += x.words
		}
	}
	slices.Sort(images)
	there := append(addresses(nowOld), addresses(nowFrom)...)
	slices.Sort(there)
	if !slices.Equal(images, there) {
		w.t.Errorf("%s: the objects in Old and From are at %v, want one for each that survives: %v", what, there, images)
	}
	if y.Old.Top-s.y.Old.Top != promoted || y.From.Top-y.From.From != kept {
		w.t.Errorf("%s: the spaces are %+v, with %d and %d words moved", what, y, promoted, kept)
	}
	w.wantOld(what, s, after, old)
	w.wantRest(what, s, after)
	w.wantWalks(what, y, nowOld, nowFrom)
	w.wantCards(what, nowOld, addresses(nowFrom))
}

// wantSpaces holds the spaces but for the Tops of those that grow.
func (w *world) wantSpaces(what string, s state, y scavenge.Young) {
	w.t.Helper()
	want := s.y
	want.From, want.To = s.y.To, s.y.From
	want.Old.Top, want.From.Top = y.Old.Top, y.From.Top
	want.Eden.Top, want.To.Top = s.y.Eden.From, s.y.From.From
	if y != want || !y.Old.Right() || !y.From.Right() || y.Old.Top < s.y.Old.Top {
		w.t.Fatalf("%s: the spaces became %+v, want %+v", what, y, want)
	}
}

// wantObject holds an object that survived, but for its references.
func (w *world) wantObject(what string, s, after state, from, to int) {
	w.t.Helper()
	x, _ := s.at(from)
	want := x
	want.at, want.mark, want.forward = to, false, 0
	if after.y.From.Has(to) {
		want.age++
	}
	got, _ := after.at(to)
	want.refs = got.refs
	if fmt.Sprint(got) != fmt.Sprint(want) {
		w.t.Errorf("%s: the object at %d became %+v, want %+v", what, from, got, want)
	}
	below := x.age < s.y.Threshold
	switch {
	case after.y.From.Has(to):
		if !below {
			w.t.Errorf("%s: the object at %d of age %d is in From, with the Threshold %d", what, from, x.age, s.y.Threshold)
		}
	case to < s.y.Old.Top || to >= after.y.Old.Top:
		w.t.Errorf("%s: the object at %d was moved to %d, which is not at the end of Old", what, from, to)
	case below && x.words <= after.y.From.End-after.y.From.Top:
		w.t.Errorf("%s: the object at %d of age %d and %d words is in Old, and From has room: %+v", what, from, x.age, x.words, after.y.From)
	}
}

// wantOld holds that of what was old just references have changed.
func (w *world) wantOld(what string, s, after state, old []thing) {
	w.t.Helper()
	was, is := slices.Clone(s.words), slices.Clone(after.words)
	for _, x := range old {
		clear(was[x.at+2 : x.at+2+len(x.refs)])
		clear(is[x.at+2 : x.at+2+len(x.refs)])
	}
	if !slices.Equal(was[s.y.Old.From:s.y.Old.Top], is[s.y.Old.From:s.y.Old.Top]) {
		w.t.Errorf("%s: other words of old objects than references, or of gaps, have changed", what)
	}
}

// wantRest holds that nothing outside of the spaces has changed.
func (w *world) wantRest(what string, s, after state) {
	w.t.Helper()
	for at, word := range s.words {
		inside := slices.ContainsFunc(s.spaces(), func(x space.Space) bool { return x.From <= at && at < x.End })
		if !inside && after.words[at] != word {
			w.t.Errorf("%s: the word at %d, in no space, has changed", what, at)
		}
	}
}

// wantWalks holds that Walk visits what there is.
func (w *world) wantWalks(what string, y scavenge.Young, old, from []thing) {
	w.t.Helper()
	for _, x := range []struct {
		where space.Space
		list  []thing
	}{{y.Old, old}, {y.From, from}, {y.Eden, nil}, {y.To, nil}} {
		if l, e := w.s.Walk(x.where.From, x.where.Top); e != api.OK || !slices.Equal(l, addresses(x.list)) {
			w.t.Errorf("%s: Walk of %+v is %v, %d, want %v", what, x.where, l, e, addresses(x.list))
		}
	}
}

// wantCards holds which cards are dirty.
func (w *world) wantCards(what string, old []thing, young []int) {
	w.t.Helper()
	var want []int
	for _, x := range old {
		if w.dirty != nil && hasAny(x.refs, young) && w.cardFrom <= x.at && x.at < w.cardTo {
			want = append(want, w.cardFrom+(x.at-w.cardFrom)/cardWords*cardWords)
		}
	}
	slices.Sort(want)
	want = slices.Compact(want)
	if got := w.dirty.All(); !slices.Equal(got, want) {
		w.t.Errorf("%s: the dirty cards are %v, want %v", what, got, want)
	}
}

// full is a world in which there is something of everything, and no error: an old object that leads to a young one,
// and one that does not, a gap in each space, and young objects that are reached, and that are not.
func full(t *testing.T) (w *world, old, reached, lost int) {
	t.Helper()
	w = newWorld(t, 80, 40, 20, 2)
	old = w.put(&w.y.Old, final, 0)
	w.gap(&w.y.Old, 1)
	w.put(&w.y.Old, pair, 0)
	w.gap(&w.y.Eden, 3)
	reached = w.put(&w.y.Eden, mix, 0)
	lost = w.put(&w.y.Eden, array, 3)
	in := w.put(&w.y.From, weak, 0)
	w.gap(&w.y.From, 2)
	w.put(&w.y.From, numbers, 0)
	w.link(old, reached, old)
	w.link(reached, in, 0, old)
	w.link(in, reached, in)
	w.link(lost, reached, lost, old)
	return w, old, reached, lost
}
