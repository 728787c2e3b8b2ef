package scavenge_test

import (
	"fmt"
	"math"
	"slices"
	"testing"

	"gleaning/api"
	"gleaning/head"
	"gleaning/scavenge"
	"gleaning/space"
)

// mixer is a row of numbers that look mixed, and are the same each time.
type mixer uint64

func (x *mixer) below(n int) int {
	*x = *x*6364136223846793005 + 1442695040888963407
	return int(*x >> 33 % mixer(n))
}

func (x *mixer) oneIn(n int) bool { return x.below(n) == 0 }

// emptyWorld has spaces of mixed sizes in a mixed order, with words between them that belong to none.
func emptyWorld(t *testing.T, m *mixer) *world {
	t.Helper()
	half, eden := m.below(30), m.below(60)
	sizes := []int{eden + half + m.below(80), eden, half, half}
	order := []int{0, 1, 2, 3}
	for i := range order {
		j := i + m.below(4-i)
		order[i], order[j] = order[j], order[i]
	}
	spaces := make([]space.Space, 4)
	at := 1
	for _, i := range order {
		at += m.below(3)
		spaces[i] = space.Space{From: at, Top: at, End: at + sizes[i]}
		at += sizes[i]
	}
	y := scavenge.Young{Old: spaces[0], Eden: spaces[1], From: spaces[2], To: spaces[3], Threshold: m.below(mostAge + 1)}
	cards := [][2]int{{y.Old.From, y.Old.End}, {0, at}, {y.Old.From, mostWords}}[m.below(3)]
	return worldOf(t, at+m.below(3), y, cards[0], cards[1])
}

// fill lays mixed objects and gaps into a space, up to so many words.
func (w *world) fill(m *mixer, x *space.Space, words int) {
	for end := x.Top + words; ; {
		n, length := 1+m.below(len(w.classes)), 0
		if w.classes[n-1].Kind == api.Array {
			length = m.below(8)
		}
		size, _ := w.c.Words(n, length)
		if gap := 1 + m.below(5); m.oneIn(5) && x.Top+gap <= end {
			w.gap(x, gap)
			continue
		}
		if x.Top+size > end {
			return
		}
		at := w.put(x, n, length)
		w.change(at, func(h *head.Head) {
			h.Age, h.Mark = m.below(mostAge+1), m.oneIn(2)
			if m.oneIn(2) {
				h.Forward = m.below(mostWords)
			}
			h.Final, h.Done = m.oneIn(3), false
			h.Done = !h.Final && m.oneIn(2)
		})
	}
}

// all is the objects of a space.
func (w *world) all(x space.Space) []int {
	list, e := w.s.Walk(x.From, x.Top)
	if e != api.OK {
		w.t.Fatalf("Walk of %+v: %d", x, e)
	}
	return list
}

// tangle lets references lead anywhere, and touches the cards that must be dirty, and some others.
func (w *world) tangle(m *mixer) {
	all := slices.Concat([]int{0}, w.all(w.y.Old), w.all(w.y.Eden), w.all(w.y.From))
	for _, at := range all[1:] {
		refs, _, _ := w.s.Shape(at)
		for field := range refs {
			if m.oneIn(2) {
				w.link(at, append(w.firsts(at, field), all[m.below(len(all))])...)
			}
		}
	}
	for range m.below(4) {
		w.dirty.Touch(m.below(w.a.Len()))
	}
}

// firsts are an object's first references.
func (w *world) firsts(at, count int) []int {
	var list []int
	for field := range count {
		list = append(list, w.refOf(at, field))
	}
	return list
}

// mixedRoots are some objects, and 0.
func (w *world) mixedRoots(m *mixer) []int {
	all := slices.Concat([]int{0}, w.all(w.y.Old), w.all(w.y.Eden), w.all(w.y.From))
	var roots []int
	for range m.below(6) {
		roots = append(roots, all[m.below(len(all))])
	}
	return roots
}

// mixedWorld is a world in which there are mixed objects, and some roots.
func mixedWorld(t *testing.T, m *mixer) (*world, []int) {
	t.Helper()
	w := emptyWorld(t, m)
	w.fill(m, &w.y.Old, m.below(1+max(w.y.Old.Room()-w.y.Eden.Room()-w.y.From.Room(), 0)))
	w.fill(m, &w.y.Eden, w.y.Eden.Room())
	w.fill(m, &w.y.From, m.below(1+w.y.From.Room()))
	w.tangle(m)
	return w, w.mixedRoots(m)
}

// P15.1 to P15.3: many mixed worlds, run again and again, with new objects in between.
func TestMixed(t *testing.T) {
	m := mixer(1)
	done := 0
	for n := range 1500 {
		w, roots := mixedWorld(t, &m)
		for i := range 5 {
			got, e := w.run(fmt.Sprintf("mixed world %d, run %d", n, i), roots...)
			if e != api.OK {
				break
			}
			done++
			roots = got
			w.fill(&m, &w.y.Eden, m.below(1+w.y.Eden.Room()))
			if m.oneIn(2) {
				w.tangle(&m)
				roots = w.mixedRoots(&m)
			}
		}
	}
	if done < 3000 {
		t.Errorf("just %d runs had no error", done)
	}
}

// breakIt breaks something, or perhaps not.
func breakIt(w *world, m *mixer, roots []int) []int {
	x := theSpaces(&w.y)[spaceNames[m.below(4)]]
	some := []int{0, 1, -1, w.a.Len(), m.below(w.a.Len()), m.below(w.a.Len()), math.MinInt, math.MaxInt}[m.below(8)]
	switch m.below(9) {
	case 0:
		w.a.Store(m.below(w.a.Len()), some)
	case 1:
		w.a.Store(m.below(w.a.Len()), 1+m.below(12))
	case 2:
		roots = append(roots, some)
	case 3:
		*[]*int{&x.From, &x.Top, &x.End}[m.below(3)] += m.below(5) - 2
	case 4:
		*[]*int{&x.From, &x.Top, &x.End}[m.below(3)] = some
	case 5:
		w.y.Threshold += m.below(11) - 5
	case 6:
		w.dirty.Take()
	case 7:
		w.y.Old.End = max(w.y.Old.Top, w.y.Old.End-m.below(40))
	case 8:
		w.y.From, w.y.Eden = w.y.Eden, w.y.From
	}
	return roots
}

// P15.1: mixed worlds that are broken, held against what the chapter says of them.
func TestMixedErrors(t *testing.T) {
	m := mixer(2)
	var seen [13]int
	for n := range 6000 {
		w, roots := mixedWorld(t, &m)
		for range 1 + m.below(2) {
			roots = breakIt(w, &m, roots)
		}
		_, e := w.run(fmt.Sprintf("broken world %d", n), roots...)
		seen[e]++
	}
	for _, e := range []api.Errno{api.OK, api.ErrArg, api.ErrForm, api.ErrFull, api.ErrState} {
		if seen[e] < 100 {
			t.Errorf("error %d was seen %d times", e, seen[e])
		}
	}
}
