package mem_test

import (
	"math"
	"slices"
	"testing"

	"gleaning/api"
	"gleaning/mem"
)

// counted is an arena whose words are 10, 11, 12 and so on, so that each word tells where it came from.
func counted(t *testing.T, words int) *mem.Arena {
	t.Helper()
	a := mem.New(words)
	for i := range words {
		if e := a.Store(i, 10+i); e != api.OK {
			t.Fatalf("Store(%d, %d) = %d", i, 10+i, e)
		}
	}
	return a
}

// whole reads by Load alone, so that a fault of Words doesn't hide one of another call.
func whole(t *testing.T, a *mem.Arena) []int {
	t.Helper()
	var list []int
	for i := range a.Len() {
		w, e := a.Load(i)
		if e != api.OK {
			t.Fatalf("Load(%d) = %d, %d", i, w, e)
		}
		list = append(list, w)
	}
	return list
}

func wantWhole(t *testing.T, what string, a *mem.Arena, want ...int) {
	t.Helper()
	if got := whole(t, a); !slices.Equal(got, want) {
		t.Errorf("%s: words are %v, want %v", what, got, want)
	}
}

// stretch is a range: where it begins and how many words it has.
type stretch struct{ at, words int }

// goodStretches and badStretches are of an arena of 4 words.
var goodStretches = []stretch{
	{0, 0}, {0, 1}, {0, 4}, {1, 3}, {2, 1}, {3, 1}, {3, 0}, {4, 0},
}

var badStretches = []stretch{
	{0, 5}, {1, 4}, {3, 2}, {4, 1}, {5, 0}, {5, 1}, {5, -1}, {5, -5}, {4096, 0},
	{-1, 0}, {-1, 1}, {-1, 2}, {-4, 4}, {0, -1}, {1, -1}, {4, -1}, {-1, -1},
	{math.MaxInt, 0}, {math.MaxInt, 1}, {math.MaxInt, 2}, {math.MaxInt, 4}, {math.MaxInt, -1},
	{math.MaxInt - 3, 4}, {math.MaxInt, math.MaxInt}, {math.MaxInt, math.MinInt},
	{0, math.MaxInt}, {1, math.MaxInt}, {2, math.MaxInt}, {4, math.MaxInt}, {-1, math.MaxInt},
	{0, math.MinInt}, {1, math.MinInt}, {4, math.MinInt}, {-1, math.MinInt},
	{math.MinInt, 0}, {math.MinInt, 1}, {math.MinInt, -1},
	{math.MinInt, math.MinInt}, {math.MinInt, math.MaxInt},
	{math.MaxInt/2 + 1, math.MaxInt/2 + 1}, {math.MinInt / 2, math.MinInt / 2},
}

// P1.1: New clamps the number of words, and Len tells it.
func TestNewClamps(t *testing.T) {
	for _, c := range []struct{ words, want int }{
		{math.MinInt, 0}, {-1, 0}, {0, 0}, {1, 1}, {4, 4},
		{api.MaxWords - 1, api.MaxWords - 1}, {api.MaxWords, api.MaxWords},
		{api.MaxWords + 1, api.MaxWords}, {math.MaxInt, api.MaxWords},
	} {
		a := mem.New(c.words)
		if a == nil {
			t.Fatalf("New(%d) is nil", c.words)
		}
		if a.Len() != c.want {
			t.Errorf("New(%d).Len() = %d, want %d", c.words, a.Len(), c.want)
		}
		for i, w := range whole(t, a) {
			if w != 0 {
				t.Errorf("New(%d): word %d is %d", c.words, i, w)
			}
		}
		if _, e := a.Load(c.want); e != api.ErrRange {
			t.Errorf("New(%d).Load(%d): error %d", c.words, c.want, e)
		}
	}
}

// P1.1: the greatest arena is usable to its last word, and no further.
func TestGreatestArena(t *testing.T) {
	a := mem.New(math.MaxInt)
	last := api.MaxWords - 1
	if e := a.Store(last, 5); e != api.OK {
		t.Errorf("Store(%d) = %d", last, e)
	}
	if w, e := a.Load(last); w != 5 || e != api.OK {
		t.Errorf("Load(%d) = %d, %d", last, w, e)
	}
	if e := a.Store(last+1, 5); e != api.ErrRange {
		t.Errorf("Store(%d) = %d", last+1, e)
	}
	if e := a.Fill(0, api.MaxWords, 3); e != api.OK {
		t.Errorf("Fill of all = %d", e)
	}
	if e := a.Fill(1, api.MaxWords, 4); e != api.ErrRange {
		t.Errorf("Fill past the end = %d", e)
	}
	list, e := a.Words(0, api.MaxWords)
	if e != api.OK || len(list) != api.MaxWords {
		t.Fatalf("Words of all: %d words, error %d", len(list), e)
	}
	if i := slices.IndexFunc(list, func(w int) bool { return w != 3 }); i >= 0 {
		t.Errorf("word %d is %d after Fill", i, list[i])
	}
}

// P1.1, P1.3: Store sets one word, to any int, and no other one.
func TestStoreLoad(t *testing.T) {
	for at := range 4 {
		for _, word := range []int{0, 1, -1, math.MaxInt, math.MinInt} {
			a := counted(t, 4)
			if e := a.Store(at, word); e != api.OK {
				t.Errorf("Store(%d, %d) = %d", at, word, e)
			}
			want := []int{10, 11, 12, 13}
			want[at] = word
			wantWhole(t, "Store", a, want...)
		}
	}
}

// P1.1, R2: addresses that aren't there.
func TestStoreLoadOutside(t *testing.T) {
	a := counted(t, 4)
	for _, at := range []int{-1, -4, 4, 5, api.MaxWords, math.MaxInt, math.MinInt, math.MaxInt - 1, math.MinInt + 1} {
		if w, e := a.Load(at); w != 0 || e != api.ErrRange {
			t.Errorf("Load(%d) = %d, %d", at, w, e)
		}
		if e := a.Store(at, 99); e != api.ErrRange {
			t.Errorf("Store(%d) = %d", at, e)
		}
	}
	wantWhole(t, "Store outside", a, 10, 11, 12, 13)
}

// The document's example 1.
func TestExample(t *testing.T) {
	a := mem.New(4)
	if e := a.Store(0, 7); e != api.OK {
		t.Errorf("Store = %d", e)
	}
	if e := a.Move(1, 0, 2); e != api.OK {
		t.Errorf("Move = %d", e)
	}
	wantWhole(t, "example", a, 7, 7, 0, 0)
}

// P1.2, P1.3: every Move inside an arena, apart or overlapping in either direction, against words put aside beforehand.
func TestMoveEverywhere(t *testing.T) {
	const size = 7
	for words := range size + 1 {
		for to := range size - words + 1 {
			for from := range size - words + 1 {
				a := counted(t, size)
				was := whole(t, a)
				want := slices.Clone(was)
				for i := range words {
					want[to+i] = was[from+i]
				}
				if e := a.Move(to, from, words); e != api.OK {
					t.Errorf("Move(%d, %d, %d) = %d", to, from, words, e)
				}
				if got := whole(t, a); !slices.Equal(got, want) {
					t.Errorf("Move(%d, %d, %d): %v, want %v", to, from, words, got, want)
				}
			}
		}
	}
}

// P1.2: both ranges must exist, whichever of them it is that doesn't.
func TestMoveOutside(t *testing.T) {
	a := counted(t, 4)
	for _, r := range badStretches {
		for _, other := range []int{0, 1, 3, 4, r.at, -1, math.MaxInt, math.MinInt} {
			if e := a.Move(r.at, other, r.words); e != api.ErrRange {
				t.Errorf("Move(%d, %d, %d) = %d", r.at, other, r.words, e)
			}
			if e := a.Move(other, r.at, r.words); e != api.ErrRange {
				t.Errorf("Move(%d, %d, %d) = %d", other, r.at, r.words, e)
			}
		}
	}
	wantWhole(t, "Move outside", a, 10, 11, 12, 13)
}

// P1.2: a Move that is just one word too long at one of its two places.
func TestMoveAtTheEnd(t *testing.T) {
	for _, c := range []struct {
		to, from, words int
		err             api.Errno
		want            []int
	}{
		{2, 0, 2, api.OK, []int{10, 11, 10, 11}},
		{0, 2, 2, api.OK, []int{12, 13, 12, 13}},
		{3, 0, 2, api.ErrRange, []int{10, 11, 12, 13}},
		{0, 3, 2, api.ErrRange, []int{10, 11, 12, 13}},
		{0, 0, 4, api.OK, []int{10, 11, 12, 13}},
		{0, 0, 5, api.ErrRange, []int{10, 11, 12, 13}},
		{4, 4, 0, api.OK, []int{10, 11, 12, 13}},
		{4, 0, 0, api.OK, []int{10, 11, 12, 13}},
		{0, 4, 0, api.OK, []int{10, 11, 12, 13}},
		{5, 0, 0, api.ErrRange, []int{10, 11, 12, 13}},
		{0, 5, 0, api.ErrRange, []int{10, 11, 12, 13}},
	} {
		a := counted(t, 4)
		if e := a.Move(c.to, c.from, c.words); e != c.err {
			t.Errorf("Move(%d, %d, %d) = %d, want %d", c.to, c.from, c.words, e, c.err)
		}
		wantWhole(t, "Move at the end", a, c.want...)
	}
}

// P1.2, P1.3: Fill sets just the range, to any int.
func TestFill(t *testing.T) {
	for _, r := range goodStretches {
		for _, word := range []int{0, 9, math.MaxInt, math.MinInt} {
			a := counted(t, 4)
			if e := a.Fill(r.at, r.words, word); e != api.OK {
				t.Errorf("Fill(%d, %d, %d) = %d", r.at, r.words, word, e)
			}
			want := []int{10, 11, 12, 13}
			for i := range r.words {
				want[r.at+i] = word
			}
			wantWhole(t, "Fill", a, want...)
		}
	}
}

func TestFillOutside(t *testing.T) {
	a := counted(t, 4)
	for _, r := range badStretches {
		if e := a.Fill(r.at, r.words, 99); e != api.ErrRange {
			t.Errorf("Fill(%d, %d) = %d", r.at, r.words, e)
		}
	}
	wantWhole(t, "Fill outside", a, 10, 11, 12, 13)
}

// P1.2: Words tells the range in order.
func TestWords(t *testing.T) {
	a := counted(t, 4)
	for _, r := range goodStretches {
		want := []int{10, 11, 12, 13}[r.at : r.at+r.words]
		if got, e := a.Words(r.at, r.words); e != api.OK || !slices.Equal(got, want) {
			t.Errorf("Words(%d, %d) = %v, %d, want %v", r.at, r.words, got, e, want)
		}
	}
	wantWhole(t, "Words", a, 10, 11, 12, 13)
}

// P1.2, R2: beside an error there is no list.
func TestWordsOutside(t *testing.T) {
	a := counted(t, 4)
	for _, r := range badStretches {
		if got, e := a.Words(r.at, r.words); e != api.ErrRange || len(got) != 0 {
			t.Errorf("Words(%d, %d) = %v, %d", r.at, r.words, got, e)
		}
	}
}

// R3: neither side sees what the other does to the words, nor behind a list's end.
func TestWordsShareNothing(t *testing.T) {
	for _, r := range goodStretches {
		a := counted(t, 4)
		list, _ := a.Words(r.at, r.words)
		again, _ := a.Words(r.at, r.words)
		was := slices.Clone(list)

		clear(list[:cap(list)])
		_ = append(list[:0], 71, 72, 73, 74, 75)
		wantWhole(t, "writing to a list", a, 10, 11, 12, 13)
		if !slices.Equal(again, was) {
			t.Errorf("Words(%d, %d): two lists share memory: %v", r.at, r.words, again)
		}

		a.Fill(0, 4, 99)
		if !slices.Equal(again, was) {
			t.Errorf("Words(%d, %d): the list changed with the arena: %v", r.at, r.words, again)
		}
	}
}

// P1.3: a nil Arena and a zero Arena have no words; so has an arena of none.
func TestNoWords(t *testing.T) {
	var none *mem.Arena
	for name, a := range map[string]*mem.Arena{"nil": none, "zero": {}, "New(0)": mem.New(0), "New(-1)": mem.New(-1)} {
		if a.Len() != 0 {
			t.Errorf("%s: Len() = %d", name, a.Len())
		}
		for _, at := range []int{0, 1, -1, math.MaxInt, math.MinInt} {
			if w, e := a.Load(at); w != 0 || e != api.ErrRange {
				t.Errorf("%s: Load(%d) = %d, %d", name, at, w, e)
			}
			if e := a.Store(at, 7); e != api.ErrRange {
				t.Errorf("%s: Store(%d) = %d", name, at, e)
			}
		}
		checkRangeOfNone(t, name, a, 0, 0, api.OK)
		checkRangeOfNone(t, name, a, 0, 1, api.ErrRange)
		checkRangeOfNone(t, name, a, 1, 0, api.ErrRange)
		for _, r := range badStretches {
			checkRangeOfNone(t, name, a, r.at, r.words, api.ErrRange)
		}
		if a.Len() != 0 {
			t.Errorf("%s: Len() = %d in the end", name, a.Len())
		}
	}
}

func checkRangeOfNone(t *testing.T, name string, a *mem.Arena, at, words int, want api.Errno) {
	t.Helper()
	if e := a.Move(at, at, words); e != want {
		t.Errorf("%s: Move(%d, %d, %d) = %d, want %d", name, at, at, words, e, want)
	}
	if e := a.Fill(at, words, 7); e != want {
		t.Errorf("%s: Fill(%d, %d) = %d, want %d", name, at, words, e, want)
	}
	if list, e := a.Words(at, words); e != want || len(list) != 0 {
		t.Errorf("%s: Words(%d, %d) = %v, %d, want %d", name, at, words, list, e, want)
	}
}

// P1.3, R6: arenas know nothing of each other.
func TestArenasApart(t *testing.T) {
	a, b := counted(t, 4), counted(t, 4)
	a.Store(0, 1)
	a.Move(2, 0, 2)
	a.Fill(1, 1, 5)
	wantWhole(t, "the other arena", b, 10, 11, 12, 13)
	wantWhole(t, "the arena", a, 1, 5, 1, 11)
}
