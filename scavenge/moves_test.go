package scavenge_test

import (
	"fmt"
	"math"
	"slices"
	"testing"

	"gleaning/api"
	"gleaning/card"
	"gleaning/head"
	"gleaning/scavenge"
	"gleaning/space"
)

// P15.2: a world in which there is something of everything.
func TestFullIsRight(t *testing.T) {
	w, old, reached, _ := full(t)
	got := w.good("the full world", reached, 0, old, reached)
	if !w.y.From.Has(got[0]) || got[1] != 0 || got[2] != old || got[3] != got[0] {
		t.Errorf("the roots became %v", got)
	}
	if w.y.From.Used() != 16 || w.y.Old.Used() != 9 {
		t.Errorf("the spaces became %+v", w.y)
	}
}

// P15.2: the chapter's example.
func TestExample(t *testing.T) {
	w := newWorld(t, 40, 10, 10, 1)
	at := w.put(&w.y.Eden, pair, 0)
	first := w.y.From
	to := w.good("the first time", at)[0]
	if to != w.y.From.From || w.y.From.From == first.From || w.headOf(to).Age != 1 || w.y.From.Used() != 4 || w.y.Old.Used() != 0 {
		t.Errorf("at %d, %+v, spaces %+v", to, w.headOf(to), w.y)
	}
	to = w.good("the next time", to)[0]
	if to != 1 || w.headOf(to).Age != 1 || w.y.From != first || w.y.Old.Used() != 4 {
		t.Errorf("at %d, %+v, spaces %+v", to, w.headOf(to), w.y)
	}
}

// P15.2: without roots nothing survives that no old object leads to.
func TestNoRoots(t *testing.T) {
	for _, roots := range [][]int{nil, {}, {0}, {0, 0, 0}} {
		w := newWorld(t, 60, 20, 20, 3)
		x, z := w.put(&w.y.Eden, final, 0), w.put(&w.y.From, final, 0)
		w.link(x, z, x)
		w.link(z, x, z)
		got := w.good("no roots", roots...)
		if !slices.Equal(got, roots) || w.y.From.Used() != 0 || w.y.Old.Used() != 0 {
			t.Errorf("roots %v became %v, spaces %+v", roots, got, w.y)
		}
		w = newWorld(t, 60, 20, 20, 3)
		if got := w.good("no roots and no objects", roots...); !slices.Equal(got, roots) {
			t.Errorf("roots %v became %v", roots, got)
		}
		w.put(&w.y.Old, pair, 0)
		w.gap(&w.y.Eden, 2)
		w.good("no young objects", roots...)
	}
}

// P15.2: nil and empty roots are alike, and what is returned for them is no memory of the argument.
func TestRootsShareNothing(t *testing.T) {
	w := newWorld(t, 60, 20, 20, 3)
	x := w.put(&w.y.Old, pair, 0)
	room := []int{x, x, -1, -2}
	got, _, e := scavenge.Run(w.a, w.c, w.y, room[:2], w.dirty)
	if e != api.OK || !slices.Equal(got, []int{x, x}) {
		t.Fatalf("Run: %v, %d", got, e)
	}
	_ = append(got, 7, 8)
	got[0] = 9
	if !slices.Equal(room, []int{x, x, -1, -2}) {
		t.Errorf("the roots' memory became %v", room)
	}
	got, _, _ = scavenge.Run(w.a, w.c, w.y, room[:0], w.dirty)
	_ = append(got, 7, 8)
	if !slices.Equal(room, []int{x, x, -1, -2}) {
		t.Errorf("the memory behind empty roots became %v", room)
	}
}

// P15.2: the same root twice leads to the same object twice, and old roots and 0 stay what they are.
func TestRootsInOrder(t *testing.T) {
	w := newWorld(t, 60, 20, 20, 3)
	old := w.put(&w.y.Old, pair, 0)
	a, b, c := w.put(&w.y.Eden, bare, 0), w.put(&w.y.Eden, pair, 0), w.put(&w.y.From, numbers, 0)
	w.setAge(c, 3)
	got := w.good("roots", c, 0, a, old, b, a, c, old, 0, b)
	for i, j := range []int{0, 1, 2, 3, 4, 2, 0, 3, 1, 4} {
		if got[i] != got[j] {
			t.Errorf("root %d is %d, and root %d is %d", i, got[i], j, got[j])
		}
	}
	if got[1] != 0 || got[3] != old || got[0] == got[2] || got[2] == got[4] || !w.y.Old.Has(got[0]) {
		t.Errorf("the roots became %v", got)
	}
	if n, _ := w.s.Num(got[4], 0); n != 1000*b {
		t.Errorf("the number is %d", n)
	}
}

// P15.2: rings, of young objects, of old and young ones, of just one.
func TestRings(t *testing.T) {
	for _, threshold := range []int{0, 1, 7} {
		for size := 1; size <= 5; size++ {
			for olds := range size + 1 {
				w := newWorld(t, 60, 30, 30, threshold)
				var ring []int
				for i := range size {
					where := []*space.Space{&w.y.Eden, &w.y.From}[i%2]
					if i < olds {
						where = &w.y.Old
					}
					ring = append(ring, w.put(where, pair, 0))
				}
				for i, at := range ring {
					w.link(at, ring[(i+1)%size])
				}
				first := w.good("a ring", ring[size-1])[0]
				at := first
				for range ring {
					at = w.refOf(at, 0)
				}
				if n, _ := w.s.Num(at, 0); at != first || n != 1000*ring[size-1] {
					t.Errorf("threshold %d, ring %v: it leads from %d to %d, whose number is %d", threshold, ring, first, at, n)
				}
				w.good("a ring, without a root")
				if olds == 0 && threshold > 0 && w.y.From.Used()+w.y.Old.Used() != 0 {
					t.Errorf("threshold %d, ring %v: it lasts without a root: %+v", threshold, ring, w.y)
				}
			}
		}
	}
}

// P15.2: chains from an old object, which no root leads to, through young ones of both spaces.
func TestChains(t *testing.T) {
	for _, threshold := range []int{0, 1, 2, 7} {
		for length := 1; length <= 9; length++ {
			w := newWorld(t, 120, 20, 20, threshold)
			last := w.put(&w.y.Old, pair, 0)
			first := last
			for i := range length {
				at := w.put([]*space.Space{&w.y.Eden, &w.y.From}[i%2], pair, 0)
				w.setAge(at, i%3)
				w.link(last, at)
				last = at
			}
			w.good("a chain")
			for n := range length {
				first = w.refOf(first, 0)
				if first == 0 {
					t.Fatalf("threshold %d: a chain of %d ends behind %d", threshold, length, n)
				}
			}
			if w.refOf(first, 0) != 0 || w.y.Old.Used()+w.y.From.Used() != 4+4*length {
				t.Errorf("threshold %d: a chain of %d became longer, or words were left: %+v", threshold, length, w.y)
			}
		}
	}
}

// P15.2: the referents of Soft, Weak and Phantom objects survive as others do.
func TestReferents(t *testing.T) {
	for _, n := range []int{soft, weak, phantom} {
		for _, from := range []string{"Old", "Eden", "From"} {
			w := newWorld(t, 60, 20, 20, 2)
			at := w.put(theSpaces(&w.y)[from], n, 0)
			aim, next := w.put(&w.y.Eden, pair, 0), w.put(&w.y.From, bare, 0)
			w.link(at, aim)
			w.link(aim, next)
			got := w.good("a referent", at)[0]
			if n, _ := w.s.Num(w.refOf(got, 0), 0); n != 1000*aim || !w.y.From.Has(w.refOf(w.refOf(got, 0), 0)) {
				t.Errorf("class %d in %s: the referent is at %d", n, from, w.refOf(got, 0))
			}
		}
	}
}

// P15.2: what is moved to Old leads on to what is moved after it, to both spaces, and back.
func TestPromotedLeads(t *testing.T) {
	w := newWorld(t, 80, 30, 30, 3)
	a, b, c, d := w.put(&w.y.Eden, final, 0), w.put(&w.y.Eden, final, 0), w.put(&w.y.From, final, 0), w.put(&w.y.From, final, 0)
	w.setAge(a, 3)
	w.setAge(c, 7)
	w.link(a, b, c)
	w.link(b, c, d)
	w.link(c, d, a)
	w.link(d, a, b)
	na := w.good("old and young", a)[0]
	nb, nc := w.refOf(na, 0), w.refOf(na, 1)
	nd := w.refOf(nb, 1)
	if !w.y.Old.Has(na) || !w.y.From.Has(nb) || !w.y.Old.Has(nc) || !w.y.From.Has(nd) || w.refOf(nb, 0) != nc ||
		w.refOf(nc, 0) != nd || w.refOf(nc, 1) != na || w.refOf(nd, 0) != na || w.refOf(nd, 1) != nb {
		t.Errorf("they are at %d, %d, %d, %d", na, nb, nc, nd)
	}
	if w.headOf(na).Age != 3 || w.headOf(nb).Age != 1 || w.headOf(nc).Age != 7 || w.headOf(nd).Age != 1 {
		t.Errorf("the ages are %d, %d, %d, %d", w.headOf(na).Age, w.headOf(nb).Age, w.headOf(nc).Age, w.headOf(nd).Age)
	}
	if !w.dirty.Dirty(na) || !w.dirty.Dirty(nc) {
		t.Errorf("the dirty cards are %v", w.dirty.All())
	}
}

// P15.2: each age with each Threshold.
func TestAges(t *testing.T) {
	for threshold := range mostAge + 1 {
		for age := range mostAge + 1 {
			for _, where := range []string{"Eden", "From"} {
				w := newWorld(t, 60, 20, 20, threshold)
				at := w.put(theSpaces(&w.y)[where], mix, 0)
				w.setAge(at, age)
				to := w.good("an age", at)[0]
				got, stays := w.headOf(to).Age, age < threshold
				if stays != w.y.From.Has(to) || stays && got != age+1 || !stays && got != age {
					t.Errorf("the age %d, with the Threshold %d: %d, at %d", age, threshold, got, to)
				}
			}
		}
	}
}

// P15.2: To's room: just enough, one word fewer, and enough for a later smaller one.
func TestRoomInTo(t *testing.T) {
	for half := range 16 {
		w := newWorld(t, 60, 20, half, 1)
		a, b := w.put(&w.y.Eden, mix, 0), w.put(&w.y.Eden, pair, 0)
		got := w.good(fmt.Sprintf("halves of %d words", half), a, b)
		used := w.y.From.Used()
		if want := []int{0, 0, 0, 0, 4, 4, 4, 4, 4}; half < 9 && used != want[half] {
			t.Errorf("halves of %d words: %d are used", half, used)
		}
		if half >= 9 && half < 13 && used != 9 && used != 4 {
			t.Errorf("halves of %d words: %d are used", half, used)
		}
		if half >= 13 && used != 13 {
			t.Errorf("halves of %d words: %d are used", half, used)
		}
		for i, from := range []int{a, b} {
			age := w.headOf(got[i]).Age
			if w.y.From.Has(got[i]) != (age == 1) || w.y.Old.Has(got[i]) != (age == 0) {
				t.Errorf("halves of %d words: the object at %d went to %d, of age %d", half, from, got[i], age)
			}
		}
	}
	w := newWorld(t, 60, 20, 4, 7)
	a, b := w.put(&w.y.Eden, pair, 0), w.put(&w.y.From, pair, 0)
	w.setAge(a, 3)
	w.setAge(b, 5)
	got := w.good("room for one of two", a, b)
	if w.y.From.Used() != 4 || w.y.Old.Used() != 4 || w.y.From.Has(got[0]) == w.y.From.Has(got[1]) {
		t.Errorf("they went to %v, spaces %+v", got, w.y)
	}
}

// P15.2: Class, Final and Done do not change; Mark and Forward become zero, wherever the object goes. Those of old
// objects stay what they are.
func TestHeads(t *testing.T) {
	for bits := range 16 {
		for _, threshold := range []int{0, 5} {
			for _, where := range spaceNames[:3] {
				for _, forward := range []int{0, 1, 23, 61, 90, mostWords - 1} {
					w := newWorld(t, 60, 20, 20, threshold)
					at := w.put(theSpaces(&w.y)[where], []int{pair, final}[bits%2], 0)
					h := head.Head{Class: w.headOf(at).Class, Age: 4, Forward: forward, Mark: bits&8 != 0, Final: bits&6 == 2, Done: bits&6 == 4}
					w.change(at, func(x *head.Head) { *x = h })
					w.link(at, at)
					to := w.good("a head", at, at)[0]
					if where != "Old" {
						h.Mark, h.Forward = false, 0
					}
					if where != "Old" && threshold == 5 {
						h.Age = 5
					}
					if w.headOf(to) != h {
						t.Errorf("in %s, threshold %d: %+v, want %+v", where, threshold, w.headOf(to), h)
					}
				}
			}
		}
	}
}

// P15.2: references and numbers, field by field; numbers may look like anything.
func TestFields(t *testing.T) {
	for n := range sample {
		n++
		for length := range mostLength + 1 {
			if length > 0 && sample[n-1].Kind != api.Array {
				break
			}
			for _, threshold := range []int{0, 1} {
				w := newWorld(t, 120, 50, 50, threshold)
				other := w.put(&w.y.Eden, bare, 0)
				at := w.put(&w.y.Eden, n, length)
				old := w.put(&w.y.Old, bare, 0)
				refs, data, _ := w.s.Shape(at)
				odd := []int{other, at, math.MinInt, math.MaxInt, -1, 0, old}
				for field := range data {
					w.s.SetNum(at, field, odd[field%len(odd)])
				}
				lead := []int{at, 0, other, old, other}
				for field := range refs {
					w.s.SetRef(at, field, lead[field%len(lead)])
				}
				got := w.good(fmt.Sprintf("class %d of length %d", n, length), at, other)
				want := []int{got[0], 0, got[1], old, got[1]}
				for field := range refs {
					if x := w.refOf(got[0], field); x != want[field%len(want)] {
						t.Errorf("class %d: reference %d is %d, want %d", n, field, x, want[field%len(want)])
					}
				}
				for field := range data {
					if x, _ := w.s.Num(got[0], field); x != odd[field%len(odd)] {
						t.Errorf("class %d: number %d is %d", n, field, x)
					}
				}
			}
		}
	}
}

// P15.2: gaps are passed by, between objects, ahead of all, behind them, and where there is nothing else.
func TestGaps(t *testing.T) {
	for mask := range 64 {
		w := newWorld(t, 100, 30, 30, 1)
		var all []int
		for i, name := range spaceNames[:3] {
			x := theSpaces(&w.y)[name]
			if mask>>i&1 != 0 {
				w.gap(x, 1)
				w.gap(x, 2)
			}
			all = append(all, w.put(x, pair, 0))
			if mask>>(i+3)&1 != 0 {
				w.gap(x, 7)
				w.gap(x, 1)
			}
			all = append(all, w.put(x, pair, 0))
		}
		for i, at := range all {
			w.link(at, all[(i+3)%6])
		}
		w.good("gaps")
		w.good("gaps, once more")
	}
	for _, name := range spaceNames[:3] {
		w := newWorld(t, 100, 30, 30, 1)
		x := theSpaces(&w.y)[name]
		w.gap(x, 30)
		w.good("just a gap in " + name)
	}
	w := newWorld(t, 100, 30, 30, 1)
	at := w.put(&w.y.Old, pair, 0)
	w.gap(&w.y.Old, 9)
	young := w.put(&w.y.Eden, pair, 0)
	w.a.Store(at+4+3, young) // words of a gap tell nothing
	w.good("a gap with a word that was a reference")
	if word, _ := w.a.Load(at + 4 + 3); word != young || w.y.From.Used() != 0 {
		t.Errorf("the gap's word is %d, spaces %+v", word, w.y)
	}
}

// P15.3: just the cards of old objects with references to young ones are dirty behind a run.
func TestDirtyBehind(t *testing.T) {
	w := newWorld(t, 120, 30, 30, 2)
	old := []int{
		w.put(&w.y.Old, array, 14), // 1 to 16: the first card
		w.put(&w.y.Old, array, 12), // 17 to 30: the second one
		w.put(&w.y.Old, array, 14), // 31 to 46: the second one, and the third one
		w.put(&w.y.Old, array, 10), // 47 to 58: the third one, and the fourth one
	}
	for at := 1; at <= 120; at++ {
		w.dirty.Touch(at)
	}
	stays, goes := w.put(&w.y.Eden, bare, 0), w.put(&w.y.From, bare, 0)
	w.setAge(goes, 2)
	w.link(old[0], 0, goes, old[1])
	w.link(old[1], old[0])
	w.link(old[2], old[1], 0, 0, 0, 0, 0, 0, 0, 0, 0, stays)
	w.link(old[3], goes, goes)
	w.good("all cards were dirty")
	if got := w.dirty.All(); !slices.Equal(got, []int{17}) {
		t.Errorf("the dirty cards are %v", got)
	}
	w.good("once more")
	if got := w.dirty.All(); !slices.Equal(got, []int{17}) {
		t.Errorf("once more, the dirty cards are %v", got)
	}
	w.good("all is old")
	if got := w.dirty.All(); len(got) != 0 || w.y.From.Used() != 0 {
		t.Errorf("all is old, and the dirty cards are %v, spaces %+v", got, w.y)
	}
}

// P15.3: an object that was moved to Old, and leads to one in From, is dirty; one that leads to none is not.
func TestDirtyWherePromoted(t *testing.T) {
	for ahead := range 20 {
		w := newWorld(t, 120, 50, 50, 2)
		if ahead > 0 {
			w.gap(&w.y.Old, ahead)
		}
		x, z, leaf := w.put(&w.y.Eden, array, 18), w.put(&w.y.Eden, array, 18), w.put(&w.y.From, pair, 0)
		w.setAge(x, 2)
		w.setAge(z, 2)
		w.link(x, 0, x, 0, leaf)
		w.link(z, x, z)
		to := w.good("promoted", x, z)
		first := func(at int) int { return 1 + (at-1)/cardWords*cardWords }
		if got := w.dirty.All(); !slices.Equal(got, []int{first(to[0])}) {
			t.Errorf("%d words ahead: the dirty cards are %v, the objects at %v", ahead, got, to)
		}
	}
}

// P15.3: dirty cards of a table that covers more than Old, or another part of it.
func TestDirtyBeyondOld(t *testing.T) {
	for _, x := range [][2]int{{0, mostWords}, {0, 40}, {1, 23}, {1, 161}, {20, 161}} {
		w := newWorld(t, 80, 40, 20, 3)
		w.cardFrom, w.cardTo, w.dirty = x[0], x[1], card.New(x[0], x[1])
		for at := x[0]; at < x[1]; at++ {
			w.dirty.Touch(at)
		}
		a, b, c := w.put(&w.y.Eden, pair, 0), w.put(&w.y.Eden, array, 20), w.put(&w.y.From, pair, 0)
		w.setAge(a, 3)
		w.setAge(b, 3)
		w.link(a, c)
		w.link(b, 0, 0, c)
		w.good(fmt.Sprintf("cards of %v", x), b, a)
	}
}

// P15.3, and R6: run again with what was returned, until all that is reached is old.
func TestUntilOld(t *testing.T) {
	for threshold := range mostAge + 1 {
		w := newWorld(t, 120, 60, 60, threshold)
		old := w.put(&w.y.Old, final, 0)
		var roots []int
		for n := range sample {
			roots = append(roots, w.put(&w.y.Eden, n+1, 0))
		}
		w.link(old, roots[0], roots[3])
		w.link(roots[0], roots[3])
		w.link(roots[3], roots[0], old)
		for times := range threshold {
			roots = w.good("young", roots...)
			for _, at := range roots {
				if w.headOf(at).Age != times+1 || !w.y.From.Has(at) {
					t.Errorf("threshold %d, behind run %d: %+v at %d", threshold, times, w.headOf(at), at)
				}
			}
			if got := w.dirty.All(); !slices.Equal(got, []int{1}) {
				t.Errorf("threshold %d, behind run %d: dirty cards %v", threshold, times, got)
			}
		}
		for range 2 {
			roots = w.good("old", roots...)
			if w.y.From.Used() != 0 || len(w.dirty.All()) != 0 || w.headOf(roots[0]).Age != threshold {
				t.Errorf("threshold %d: %+v, dirty cards %v", threshold, w.y, w.dirty.All())
			}
		}
	}
}

// P15.2: as many objects as there may be, all of them reached, and the least and the greatest arena of use.
func TestGreatest(t *testing.T) {
	for _, threshold := range []int{0, 1} {
		w := newWorld(t, 2045, 682, 682, threshold)
		w.put(&w.y.Old, array, 14)
		var roots []int
		last := 0
		for w.y.Eden.Room() >= 4 {
			at := w.put(&w.y.Eden, pair, 0)
			w.link(at, last)
			last = at
		}
		for w.y.From.Room() >= 2 {
			roots = append(roots, w.put(&w.y.From, bare, 0))
		}
		got := w.good("a great many", append(roots, last)...)
		n := 0
		for at := got[len(got)-1]; at != 0; at = w.refOf(at, 0) {
			n++
		}
		if n != 170 || w.y.Old.Used()+w.y.From.Used() != 16+680+682 {
			t.Errorf("%d objects are in the row, spaces %+v", n, w.y)
		}
	}
}

// R6: the same run in two arenas does the same.
func TestSame(t *testing.T) {
	v, old, reached, _ := full(t)
	w, _, _, _ := full(t)
	a, b := v.good("one", reached, old), w.good("the other", reached, old)
	if !slices.Equal(a, b) || v.y != w.y || !slices.Equal(v.words(), w.words()) || !slices.Equal(v.dirty.All(), w.dirty.All()) {
		t.Errorf("the same run has different results: %v and %v", a, b)
	}
}
