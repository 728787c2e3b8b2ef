package space_test

import (
	"math"
	"slices"
	"testing"

	"gleaning/api"
	"gleaning/space"
)

// edges are the numbers around which a comparison, a sum or a difference may go wrong.
var edges = []int{
	math.MinInt, math.MinInt + 1, math.MinInt + api.MaxWords, math.MinInt / 2,
	-api.MaxWords - 1, -api.MaxWords, -api.MaxWords + 1, -2, -1, 0, 1, 2, 10,
	api.MaxWords - 1, api.MaxWords, api.MaxWords + 1, 2 * api.MaxWords,
	math.MaxInt / 2, math.MaxInt/2 + 1, math.MaxInt - api.MaxWords, math.MaxInt - 1, math.MaxInt,
}

// badSpaces has each way of being invalid, by itself and with others.
var badSpaces = []space.Space{
	// From is negative
	{-1, -1, -1}, {-1, 0, 0}, {-1, 0, 5}, {-1, 3, 5}, {-5, -3, 5}, {-5, -3, -1},
	{math.MinInt, 0, 5}, {math.MinInt, math.MinInt, math.MinInt}, {math.MinInt, math.MinInt, 5},
	{math.MinInt, 0, api.MaxWords},
	// Top is below From
	{5, 4, 9}, {1, 0, 1}, {1, 0, 0}, {5, -1, 9}, {5, math.MinInt, 9}, {api.MaxWords, 0, api.MaxWords},
	// End is below Top
	{5, 7, 6}, {5, 6, 5}, {0, 1, 0}, {0, 1, -1}, {5, 7, math.MinInt}, {0, math.MaxInt, 5}, {0, api.MaxWords, api.MaxWords - 1},
	// End is below From, of which Top may say nothing
	{5, 5, 4}, {5, 4, 3}, {9, 5, 7}, {9, 7, 5},
	// End is above MaxWords
	{0, 0, api.MaxWords + 1}, {5, 7, api.MaxWords + 1}, {api.MaxWords + 1, api.MaxWords + 1, api.MaxWords + 1},
	{api.MaxWords, api.MaxWords, api.MaxWords + 1}, {api.MaxWords, api.MaxWords + 1, api.MaxWords + 1},
	{0, 0, math.MaxInt}, {5, 7, math.MaxInt}, {math.MaxInt, math.MaxInt, math.MaxInt},
	// all at once
	{math.MaxInt, math.MinInt, math.MaxInt}, {math.MaxInt, 0, math.MinInt}, {math.MinInt, math.MaxInt, math.MinInt},
	{math.MinInt, math.MaxInt, math.MaxInt}, {math.MinInt, 0, math.MaxInt},
}

// goodSpaces are valid ones: empty, partly and fully allocated, without words, at both ends of the addresses.
var goodSpaces = []space.Space{
	{}, {0, 0, 1}, {0, 1, 1}, {0, 0, api.MaxWords}, {0, api.MaxWords, api.MaxWords}, {0, 100, api.MaxWords},
	{10, 10, 15}, {10, 13, 15}, {10, 15, 15}, {10, 10, 10}, {1, 1, 2}, {1, 2, 2},
	{api.MaxWords, api.MaxWords, api.MaxWords},
	{api.MaxWords - 1, api.MaxWords - 1, api.MaxWords}, {api.MaxWords - 1, api.MaxWords, api.MaxWords},
}

func wantNew(t *testing.T, from, words int, want space.Space, err api.Errno) {
	t.Helper()
	if s, e := space.New(from, words); s != want || e != err {
		t.Errorf("New(%d, %d) = %v, %d, want %v, %d", from, words, s, e, want, err)
	}
}

// P2.1: a space begins empty, has its words, and may end just at MaxWords.
func TestNew(t *testing.T) {
	for _, c := range []struct{ from, words int }{
		{0, 0}, {0, 1}, {10, 5}, {10, 0}, {1, api.MaxWords - 1},
		{0, api.MaxWords}, {api.MaxWords - 1, 1}, {api.MaxWords - 1, 0}, {api.MaxWords, 0}, {2048, 2048},
	} {
		wantNew(t, c.from, c.words, space.Space{From: c.from, Top: c.from, End: c.from + c.words}, api.OK)
	}
}

// P2.1, R2: negative numbers, ends above MaxWords, and sums that wrap round.
func TestNewRefused(t *testing.T) {
	for _, c := range []struct{ from, words int }{
		{-1, 0}, {-1, 1}, {-1, 2}, {-1, 5}, {0, -1}, {10, -1}, {10, -10}, {-1, -1}, {-5, 10}, {10, -5},
		{0, api.MaxWords + 1}, {1, api.MaxWords}, {api.MaxWords, 1}, {api.MaxWords - 1, 2}, {2048, 2049},
		{api.MaxWords + 1, 0}, {api.MaxWords + 1, -1}, {api.MaxWords + 5, -10}, {-1, api.MaxWords + 1}, {-1, api.MaxWords},
		{math.MaxInt, 0}, {math.MaxInt, 1}, {math.MaxInt, 10}, {math.MaxInt, math.MaxInt}, {1, math.MaxInt}, {0, math.MaxInt},
		{math.MaxInt/2 + 1, math.MaxInt/2 + 1}, {math.MaxInt, -1}, {math.MaxInt, math.MinInt}, {math.MaxInt, -math.MaxInt},
		{math.MinInt, 0}, {math.MinInt, math.MinInt}, {math.MinInt, math.MaxInt}, {0, math.MinInt}, {1, math.MinInt},
		{-1, math.MinInt}, {-1, math.MaxInt}, {-2, math.MaxInt}, {math.MinInt / 2, math.MinInt / 2},
	} {
		wantNew(t, c.from, c.words, space.Space{}, api.ErrArg)
	}
}

// P2.1: what New gives is valid, and it gives it just where the numbers allow it.
func TestNewOfEdges(t *testing.T) {
	for _, from := range edges {
		for _, words := range edges {
			small := from >= 0 && words >= 0 && from <= api.MaxWords && words <= api.MaxWords
			if !small || from+words > api.MaxWords {
				wantNew(t, from, words, space.Space{}, api.ErrArg)
				continue
			}
			wantNew(t, from, words, space.Space{From: from, Top: from, End: from + words}, api.OK)
			if s, _ := space.New(from, words); !s.Right() || s.Used() != 0 || s.Room() != words || s.Has(from) {
				t.Errorf("New(%d, %d) = %v: Right %t, Used %d, Room %d", from, words, s, s.Right(), s.Used(), s.Room())
			}
		}
	}
}

// P2.1: valid spaces.
func TestRight(t *testing.T) {
	for _, s := range goodSpaces {
		if !s.Right() {
			t.Errorf("%v.Right() is false", s)
		}
		if s.Used() != s.Top-s.From || s.Room() != s.End-s.Top {
			t.Errorf("%v: Used %d, Room %d", s, s.Used(), s.Room())
		}
		if e := s.Empty(); e != (space.Space{From: s.From, Top: s.From, End: s.End}) {
			t.Errorf("%v.Empty() = %v", s, e)
		}
	}
}

// P2.1, P2.2, R2: invalid spaces hold nothing, have no room and give nothing.
func TestInvalid(t *testing.T) {
	for _, s := range badSpaces {
		if s.Right() {
			t.Errorf("%v.Right() is true", s)
		}
		if s.Used() != 0 || s.Room() != 0 {
			t.Errorf("%v: Used %d, Room %d", s, s.Used(), s.Room())
		}
		if e := s.Empty(); e != (space.Space{}) {
			t.Errorf("%v.Empty() = %v", s, e)
		}
		for _, n := range append([]int{s.From, s.Top - 1, s.Top, s.End - 1, 3, 4, 5, 6, 7, 8}, edges...) {
			if s.Has(n) {
				t.Errorf("%v.Has(%d) is true", s, n)
			}
			wantTake(t, s, n, 0, space.Space{}, api.ErrArg)
		}
	}
}

// P2.1: validity is told of all triples of edges as the chapter words it.
func TestRightOfEdges(t *testing.T) {
	for _, from := range edges {
		for _, top := range edges {
			for _, end := range edges {
				s := space.Space{From: from, Top: top, End: end}
				want := slices.IsSorted([]int{0, from, top, end, api.MaxWords})
				if s.Right() != want {
					t.Errorf("%v.Right() = %t", s, s.Right())
				}
			}
		}
	}
}

// P2.1: an address is had from From on and below Top, whatever End is.
func TestHas(t *testing.T) {
	for _, s := range goodSpaces {
		near := []int{s.From - 1, s.From, s.From + 1, s.Top - 1, s.Top, s.Top + 1, s.End - 1, s.End, s.End + 1}
		for _, at := range append(near, edges...) {
			if want := at >= s.From && at < s.Top; s.Has(at) != want {
				t.Errorf("%v.Has(%d) = %t", s, at, !want)
			}
		}
	}
	s := space.Space{From: 10, Top: 13, End: 15}
	for at, want := range map[int]bool{9: false, 10: true, 11: true, 12: true, 13: false, 14: false, 15: false} {
		if s.Has(at) != want {
			t.Errorf("%v.Has(%d) = %t", s, at, !want)
		}
	}
}

func wantTake(t *testing.T, s space.Space, words, at int, next space.Space, err api.Errno) {
	t.Helper()
	was := s
	gotAt, gotNext, e := s.Take(words)
	if gotAt != at || gotNext != next || e != err {
		t.Errorf("%v.Take(%d) = %d, %v, %d, want %d, %v, %d", was, words, gotAt, gotNext, e, at, next, err)
	}
	if s != was {
		t.Errorf("%v.Take(%d) made the space %v", was, words, s)
	}
}

// P2.2: none, all that there is, one more.
func TestTake(t *testing.T) {
	for _, s := range goodSpaces {
		room := s.End - s.Top
		for _, words := range []int{0, -1, -2, -room, -room - 1, -api.MaxWords, math.MinInt, math.MinInt + 1} {
			if words < 1 {
				wantTake(t, s, words, 0, space.Space{}, api.ErrArg)
			}
		}
		for _, words := range []int{1, 2, room / 2, room - 1, room} {
			if words >= 1 && words <= room {
				wantTake(t, s, words, s.Top, space.Space{From: s.From, Top: s.Top + words, End: s.End}, api.OK)
			}
		}
		for _, words := range []int{room + 1, room + 2, api.MaxWords + 1, math.MaxInt - api.MaxWords, math.MaxInt - 1, math.MaxInt} {
			wantTake(t, s, words, 0, space.Space{}, api.ErrFull)
		}
	}
}

// The chapter's example; the words that were left can still be taken.
func TestTakeExample(t *testing.T) {
	s, e := space.New(10, 5)
	if e != api.OK {
		t.Fatalf("New(10, 5): error %d", e)
	}
	wantTake(t, s, 3, 10, space.Space{From: 10, Top: 13, End: 15}, api.OK)
	_, s, _ = s.Take(3)
	wantTake(t, s, 3, 0, space.Space{}, api.ErrFull)
	wantTake(t, s, 2, 13, space.Space{From: 10, Top: 15, End: 15}, api.OK)
	_, s, _ = s.Take(2)
	wantTake(t, s, 1, 0, space.Space{}, api.ErrFull)
}

// P2.1, P2.2: word by word to the end, then empty again.
func TestTakeAll(t *testing.T) {
	s, e := space.New(0, api.MaxWords)
	if e != api.OK {
		t.Fatalf("New(0, %d): error %d", api.MaxWords, e)
	}
	whole := s
	for i := range api.MaxWords {
		at, next, e := s.Take(1)
		if at != i || e != api.OK || next.Used() != i+1 || next.Room() != api.MaxWords-i-1 || !next.Has(i) || next.Has(i+1) {
			t.Fatalf("%v.Take(1) = %d, %v, %d", s, at, next, e)
		}
		s = next
	}
	wantTake(t, s, 1, 0, space.Space{}, api.ErrFull)
	if s.Empty() != whole {
		t.Errorf("%v.Empty() = %v", s, s.Empty())
	}
}

// Ways, R3: spaces are values: what is done to one leaves it, and its copies, as they were.
func TestSpacesAreValues(t *testing.T) {
	s := space.Space{From: 10, Top: 13, End: 15}
	other := s
	_, next, _ := s.Take(1)
	empty := s.Empty()
	next.Top, empty.End = 0, 0
	if s != other || s != (space.Space{From: 10, Top: 13, End: 15}) {
		t.Errorf("the space is %v, its copy %v", s, other)
	}
	wantTake(t, s, 2, 13, space.Space{From: 10, Top: 15, End: 15}, api.OK)
}

func wantSplit(t *testing.T, from int, words []int, want []space.Space, err api.Errno) {
	t.Helper()
	was := slices.Clone(words)
	l, e := space.Split(from, words...)
	if !slices.Equal(l, want) || e != err {
		t.Errorf("Split(%d, %v) = %v, %d, want %v, %d", from, words, l, e, want, err)
	}
	if !slices.Equal(words, was) {
		t.Errorf("Split(%d, %v) made the sizes %v", from, was, words)
	}
}

// P2.3: spaces one behind the other, sizes of 0 among them.
func TestSplit(t *testing.T) {
	const top = api.MaxWords
	for _, c := range []struct {
		from  int
		words []int
		want  []space.Space
	}{
		{1, []int{4}, []space.Space{{1, 1, 5}}},
		{1, []int{4, 0, 6}, []space.Space{{1, 1, 5}, {5, 5, 5}, {5, 5, 11}}},
		{0, []int{0}, []space.Space{{0, 0, 0}}},
		{7, []int{0, 0, 0}, []space.Space{{7, 7, 7}, {7, 7, 7}, {7, 7, 7}}},
		{0, []int{0, 3, 2, 1}, []space.Space{{0, 0, 0}, {0, 0, 3}, {3, 3, 5}, {5, 5, 6}}},
		{0, []int{top}, []space.Space{{0, 0, top}}},
		{1, []int{4000, 95}, []space.Space{{1, 1, 4001}, {4001, 4001, top}}},
		{1, []int{4000, 95, 0, 0}, []space.Space{{1, 1, 4001}, {4001, 4001, top}, {top, top, top}, {top, top, top}}},
		{top, []int{0}, []space.Space{{top, top, top}}},
	} {
		wantSplit(t, c.from, c.words, c.want, api.OK)
	}
}

// P2.3, R2: beside the error there are no spaces, not even those that fit.
func TestSplitRefused(t *testing.T) {
	for _, c := range []struct {
		from  int
		words []int
	}{
		{-1, []int{1}}, {-1, []int{0}}, {-4, []int{4, 4}}, {api.MaxWords + 1, []int{0}}, {api.MaxWords, []int{1}},
		{1, []int{-1}}, {1, []int{-1, 4}}, {1, []int{4, -1}}, {1, []int{4, -1, 4}}, {1, []int{4, -4, 4}},
		{1, []int{4000, 96}}, {1, []int{4000, 95, 1}}, {1, []int{4000, 95, 0, 1}}, {0, []int{0, 0, api.MaxWords + 1}},
		{1, []int{4, math.MaxInt}}, {1, []int{math.MaxInt, math.MaxInt, 4}}, {1, []int{4, math.MinInt}},
		{0, []int{4, math.MaxInt, math.MaxInt}}, {0, []int{math.MaxInt/2 + 1, math.MaxInt/2 + 1, 4}},
		{math.MaxInt, []int{1}}, {math.MaxInt, []int{0}}, {math.MinInt, []int{math.MaxInt, 1}}, {math.MinInt, []int{math.MinInt}},
	} {
		wantSplit(t, c.from, c.words, nil, api.ErrArg)
	}
}

// P2.3, R4: of no sizes there is none for which New returns an error, wherever it begins.
func TestSplitOfNoSizes(t *testing.T) {
	for _, from := range edges {
		wantSplit(t, from, nil, nil, api.OK)
		wantSplit(t, from, []int{}, nil, api.OK)
	}
	if l, e := space.Split(1); len(l) != 0 || e != api.OK {
		t.Errorf("Split(1) = %v, %d", l, e)
	}
}

// P2.3: each space is the one that New gives for its place and size, however many there are.
func TestSplitAgainstNew(t *testing.T) {
	words := make([]int, 0, 200)
	for i := range 200 {
		words = append(words, i%7*3)
	}
	l, e := space.Split(5, words...)
	if e != api.OK || len(l) != len(words) {
		t.Fatalf("Split of %d sizes: %d spaces, error %d", len(words), len(l), e)
	}
	at := 5
	for i, size := range words {
		wantNew(t, at, size, l[i], api.OK)
		at += size
	}
}

// R3: lists share no memory, and the sizes beyond their length are left alone.
func TestSplitSharesNothing(t *testing.T) {
	sizes := []int{4, 6, -1, 99}
	one, _ := space.Split(1, sizes[:2]...)
	two, _ := space.Split(1, sizes[:2]...)
	want := []space.Space{{1, 1, 5}, {5, 5, 11}}
	clear(one[:cap(one)])
	if !slices.Equal(two, want) {
		t.Errorf("the second list is %v", two)
	}
	wantSplit(t, 1, sizes[:2], want, api.OK)
	if !slices.Equal(sizes, []int{4, 6, -1, 99}) {
		t.Errorf("the sizes are %v", sizes)
	}
}
