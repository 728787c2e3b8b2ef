package object_test

import (
	"math"
	"slices"
	"testing"

	"gleaning/api"
	"gleaning/class"
	"gleaning/head"
	"gleaning/mem"
	"gleaning/object"
)

// The chapter's numbers, written out, so that a limit taken wrongly is seen.
const (
	mostWords  = 4096
	mostLength = 30
	mark       = 1024
	final      = 2048
	done       = 4096
	forward    = 8192
)

// sample has classes of each kind, with few fields and as many as there may be; numbered from 1 on.
var sample = []api.Class{
	{Kind: api.Plain, Refs: 1, Data: 1},              // 1
	{Kind: api.Array},                                // 2
	{Kind: api.Plain},                                // 3
	{Kind: api.Plain, Refs: 2, Final: true},          // 4
	{Kind: api.Plain, Data: 3},                       // 5
	{Kind: api.Soft, Refs: 1, Data: 2},               // 6
	{Kind: api.Weak, Refs: 2, Data: 3},               // 7
	{Kind: api.Phantom, Refs: 1, Data: 2},            // 8
	{Kind: api.Array, Final: true},                   // 9
	{Kind: api.Plain, Refs: 30},                      // 10
	{Kind: api.Plain, Data: 30, Final: true},         // 11
	{Kind: api.Phantom, Refs: 28, Data: 2},           // 12
	{Kind: api.Plain, Refs: 3, Data: 4, Final: true}, // 13
}

// extremes are numbers far from each address, size and field; many become one of these if a sum wraps round.
var extremes = []int{
	math.MinInt, math.MinInt + 1, math.MinInt + 2, math.MinInt + 3, math.MinInt + 4, math.MinInt + 31, math.MinInt + 32, math.MinInt / 2,
	-1 << 32, -1<<32 + 1, math.MinInt32, -4097, -4096, -33, -32, -31, -4, -3, -2, -1,
	4097, 8192, 1 << 16, math.MaxInt32, 1 << 32, 1<<32 + 1, 1<<32 + 2, 1 << 62,
	math.MaxInt / 2, math.MaxInt - 32, math.MaxInt - 31, math.MaxInt - 4, math.MaxInt - 3, math.MaxInt - 2, math.MaxInt - 1, math.MaxInt,
}

func tableOf(t *testing.T, classes ...api.Class) *class.Table {
	t.Helper()
	c, e := class.New(classes...)
	if e != api.OK {
		t.Fatalf("class.New: %d", e)
	}
	return c
}

func arenaOf(t *testing.T, words ...int) *mem.Arena {
	t.Helper()
	a := mem.New(len(words))
	for i, w := range words {
		if e := a.Store(i, w); e != api.OK {
			t.Fatalf("Store(%d): %d", i, e)
		}
	}
	return a
}

// filled is words that are each different, and none of which is a header.
func filled(count int) []int {
	list := make([]int, count)
	for i := range list {
		list[i] = -100 - i
	}
	return list
}

func wholeOf(a *mem.Arena) []int {
	list, _ := a.Words(0, a.Len())
	return list
}

func wantWords(t *testing.T, what string, a *mem.Arena, want []int) {
	t.Helper()
	if got := wholeOf(a); !slices.Equal(got, want) {
		t.Errorf("%s: words are %v, want %v", what, got, want)
	}
}

func wantError(t *testing.T, what string, got, want api.Errno) {
	t.Helper()
	if got != want {
		t.Errorf("%s: error %d, want %d", what, got, want)
	}
}

func wantSize(t *testing.T, s object.Store, at, words int, is bool, err api.Errno) {
	t.Helper()
	if n, i, e := s.Size(at); n != words || i != is || e != err {
		t.Errorf("Size(%d) = %d, %t, %d, want %d, %t, %d", at, n, i, e, words, is, err)
	}
}

func wantShape(t *testing.T, s object.Store, at, refs, data int, err api.Errno) {
	t.Helper()
	if r, d, e := s.Shape(at); r != refs || d != data || e != err {
		t.Errorf("Shape(%d) = %d, %d, %d, want %d, %d, %d", at, r, d, e, refs, data, err)
	}
}

func wantHead(t *testing.T, s object.Store, at int, want head.Head, err api.Errno) {
	t.Helper()
	if h, e := s.Head(at); h != want || e != err {
		t.Errorf("Head(%d) = %+v, %d, want %+v, %d", at, h, e, want, err)
	}
}

func wantRef(t *testing.T, s object.Store, at, field, want int, err api.Errno) {
	t.Helper()
	if n, e := s.Ref(at, field); n != want || e != err {
		t.Errorf("Ref(%d, %d) = %d, %d, want %d, %d", at, field, n, e, want, err)
	}
}

func wantNum(t *testing.T, s object.Store, at, field, want int, err api.Errno) {
	t.Helper()
	if n, e := s.Num(at, field); n != want || e != err {
		t.Errorf("Num(%d, %d) = %d, %d, want %d, %d", at, field, n, e, want, err)
	}
}

// wantWalk holds Walk; beside an error there is no list.
func wantWalk(t *testing.T, s object.Store, from, to int, want []int, err api.Errno) {
	t.Helper()
	if l, e := s.Walk(from, to); !slices.Equal(l, want) || e != err {
		t.Errorf("Walk(%d, %d) = %v, %d, want %v, %d", from, to, l, e, want, err)
	}
}

// laid is the words of a new object, as the chapter says it.
func laid(c api.Class, n, length int) []int {
	first := n
	if c.Final {
		first += final
	}
	return append([]int{first, length}, make([]int, c.Refs+c.Data+length)...)
}

// what is what the chapter says of an address: the error of Size, or what is there.
type what struct {
	err               api.Errno
	is                bool
	words, refs, data int
}

// isHeader takes a word apart by division.
func isHeader(word int) bool {
	return word >= 0 && word < forward*mostWords && word/64%16 <= 7 && word&(final+done) != final+done
}

// said works out of words and classes alone what is at an address.
func said(words []int, classes []api.Class, at int) what {
	nothing := what{err: api.ErrForm}
	if at < 1 || at >= len(words) {
		return what{err: api.ErrRange}
	}
	if !isHeader(words[at]) {
		return nothing
	}
	n := words[at] % 64
	if n == 0 && words[at]&mark != 0 {
		return what{words: 1}
	}
	rest := words[at:]
	if len(rest) < 2 || n > len(classes) {
		return nothing
	}
	if n == 0 {
		if rest[1] < 2 || rest[1] > len(rest) {
			return nothing
		}
		return what{words: rest[1]}
	}
	c := classes[n-1]
	if rest[1] < 0 || rest[1] > mostLength || rest[1] > 0 && c.Kind != api.Array {
		return nothing
	}
	x := what{is: true, words: 2 + c.Refs + c.Data + rest[1], refs: c.Refs + rest[1], data: c.Data}
	if x.words > len(rest) {
		return nothing
	}
	return x
}

// other is the error that the other functions return.
func (x what) other() api.Errno {
	if x.err == api.OK && !x.is {
		return api.ErrKind
	}
	return x.err
}

// fieldError is the error of a field among so many.
func (x what) fieldError(field, fields int) api.Errno {
	if e := x.other(); e != api.OK {
		return e
	}
	if field < 0 || field >= fields {
		return api.ErrArg
	}
	return api.OK
}

// wantSaid holds all that is asked of an address, and written there, against what the chapter says of it.
func wantSaid(t *testing.T, c *class.Table, classes []api.Class, words []int, at int) {
	t.Helper()
	x := said(words, classes, at)
	a := arenaOf(t, words...)
	s := object.On(a, c)
	wantSize(t, s, at, x.words, x.is, x.err)
	wantShape(t, s, at, x.refs, x.data, x.other())
	h := head.Head{}
	if x.is {
		h, _ = head.Of(words[at])
	}
	wantHead(t, s, at, h, x.other())
	for _, field := range fieldsAround(x.refs, x.data) {
		ref, num := x.fieldError(field, x.refs), x.fieldError(field, x.data)
		wantRef(t, s, at, field, wordAt(words, at+2+field, ref), ref)
		wantNum(t, s, at, field, wordAt(words, at+2+x.refs+field, num), num)
	}
	wantWords(t, "after reading", a, words)
	wantWritten(t, s, a, x, at)
}

// wordAt is the word that is read where there is no error, and 0 where there is one.
func wordAt(words []int, at int, e api.Errno) int {
	if e != api.OK {
		return 0
	}
	return words[at]
}

// fieldsAround are some fields inside, and outside of as many as there are.
func fieldsAround(refs, data int) []int {
	list := []int{math.MinInt, math.MinInt + 2, -2, -1, 0, 1, 2, math.MaxInt - 2, math.MaxInt}
	return append(list, refs-1, refs, refs+1, data-1, data, data+1, refs+data-1, refs+data)
}

// wantWritten writes each field, and a head, and holds that just this word has changed, or none.
func wantWritten(t *testing.T, s object.Store, a *mem.Arena, x what, at int) {
	t.Helper()
	words := wholeOf(a)
	for _, field := range fieldsAround(x.refs, x.data) {
		e := x.fieldError(field, x.refs)
		wantError(t, "SetRef", s.SetRef(at, field, -77), e)
		if e == api.OK {
			words[at+2+field] = -77
		}
		wantWords(t, "after SetRef", a, words)
		e = x.fieldError(field, x.data)
		wantError(t, "SetNum", s.SetNum(at, field, -78), e)
		if e == api.OK {
			words[at+2+x.refs+field] = -78
		}
		wantWords(t, "after SetNum", a, words)
	}
	n := 1
	if x.is {
		n = words[at] % 64
		words[at] = n + 64*5 + mark
	}
	wantError(t, "SetHead", s.SetHead(at, head.Head{Class: n, Age: 5, Mark: true}), x.other())
	wantWords(t, "after SetHead", a, words)
}

// The chapter's example.
func TestExample(t *testing.T) {
	a := mem.New(6)
	s := object.On(a, tableOf(t, api.Class{Kind: api.Plain, Refs: 1, Data: 1}))
	wantError(t, "Lay", s.Lay(1, 1, 0), api.OK)
	wantSize(t, s, 1, 4, true, api.OK)
	wantError(t, "SetNum", s.SetNum(1, 0, 9), api.OK)
	wantWords(t, "example", a, []int{0, 1, 0, 0, 9, 0})
}

// lengths are those that an object of a class may have.
func lengths(c api.Class) []int {
	if c.Kind != api.Array {
		return []int{0}
	}
	return []int{0, 1, 2, 15, mostLength - 1, mostLength}
}

// P6.1: each class, at the first place, one between and the last place where it fits, over words that were not 0.
func TestLay(t *testing.T) {
	c := tableOf(t, sample...)
	for i, x := range sample {
		for _, length := range lengths(x) {
			want := laid(x, i+1, length)
			for _, room := range []int{0, 1, 2, 40} {
				last := 1 + room
				for _, at := range []int{1, (1 + last) / 2, last} {
					words := filled(last + len(want))
					a := arenaOf(t, words...)
					copy(words[at:], want)
					s := object.On(a, c)
					wantError(t, "Lay", s.Lay(at, i+1, length), api.OK)
					wantWords(t, "Lay", a, words)
					wantSize(t, s, at, len(want), true, api.OK)
					wantShape(t, s, at, x.Refs+length, x.Data, api.OK)
					wantHead(t, s, at, head.Head{Class: i + 1, Final: x.Final}, api.OK)
				}
			}
		}
	}
}

// P6.1: the number of the last class that there may be, and its neighbours.
func TestLayLastClass(t *testing.T) {
	list := slices.Repeat([]api.Class{{Kind: api.Plain, Refs: 1}}, 63)
	list[61].Final, list[62] = true, api.Class{Kind: api.Array, Final: true}
	a := arenaOf(t, filled(12)...)
	s := object.On(a, tableOf(t, list...))
	wantError(t, "Lay of 61", s.Lay(1, 61, 0), api.OK)
	wantError(t, "Lay of 62", s.Lay(4, 62, 0), api.OK)
	wantError(t, "Lay of 63", s.Lay(7, 63, 2), api.OK)
	wantError(t, "Lay of 64", s.Lay(1, 64, 0), api.ErrClass)
	wantWords(t, "Lay", a, []int{-100, 61, 0, 0, 62 + final, 0, 0, 63 + final, 2, 0, 0, -111})
}

// placesOutside are addresses where so many words do not exist, in an arena of another number of words.
func placesOutside(words, size int) []int {
	return append([]int{0, words - size + 1, words - size + 2, words - 1, words, words + 1}, extremes...)
}

// P6.1, R2: places where an object of each class does not fit.
func TestLayOutside(t *testing.T) {
	c := tableOf(t, sample...)
	for i, x := range sample {
		for _, length := range lengths(x) {
			size := 2 + x.Refs + x.Data + length
			for _, room := range []int{1, size - 1, size, size + 1, size + 9} {
				words := filled(room)
				a := arenaOf(t, words...)
				s := object.On(a, c)
				for _, at := range placesOutside(room, size) {
					if at >= 1 && at <= room-size {
						continue
					}
					wantError(t, "Lay outside", s.Lay(at, i+1, length), api.ErrRange)
				}
				wantWords(t, "Lay outside", a, words)
			}
		}
	}
}

// P6.1, R1, R2: lengths and classes that may not be, at places that may be and at others.
func TestLayWrong(t *testing.T) {
	words := filled(50)
	a := arenaOf(t, words...)
	s := object.On(a, tableOf(t, sample...))
	for _, at := range append([]int{0, 1, 5, 18, 19, 48, 49, 50, 51}, extremes...) {
		for _, n := range append([]int{0, 14, 15, 63, 64, 65}, extremes...) {
			for _, length := range []int{0, 1, 30, 31, -1, math.MaxInt, math.MinInt} {
				wantError(t, "Lay of no class", s.Lay(at, n, length), api.ErrClass)
			}
		}
		for i, x := range sample {
			for _, length := range extremes {
				wantError(t, "Lay of a wrong length", s.Lay(at, i+1, length), lengthError(x, length))
			}
			for _, length := range []int{1, 2, 29, 30, 31, 32} {
				if x.Kind != api.Array || length > mostLength {
					wantError(t, "Lay of a wrong length", s.Lay(at, i+1, length), lengthError(x, length))
				}
			}
		}
	}
	wantWords(t, "wrong Lay", a, words)
}

// lengthError is the error of a length that may not be.
func lengthError(c api.Class, length int) api.Errno {
	if c.Kind == api.Array && length > mostLength {
		return api.ErrLarge
	}
	return api.ErrArg
}

// P6.1: gaps of each size at each place: two words at most change.
func TestGap(t *testing.T) {
	const size = 9
	for at := 1; at < size; at++ {
		for words := 1; words <= size-at; words++ {
			want := filled(size)
			a := arenaOf(t, want...)
			s := object.On(a, tableOf(t, sample...))
			if words == 1 {
				want[at] = mark
			} else {
				want[at], want[at+1] = 0, words
			}
			wantError(t, "Gap", s.Gap(at, words), api.OK)
			wantWords(t, "Gap", a, want)
			wantSize(t, s, at, words, false, api.OK)
			wantWalk(t, s, at, at+words, nil, api.OK)
		}
	}
}

// P6.1: the greatest gaps that there may be, and one word more.
func TestGreatestGap(t *testing.T) {
	a := mem.New(mostWords)
	s := object.On(a, nil)
	wantError(t, "Gap", s.Gap(1, mostWords), api.ErrRange)
	wantError(t, "Gap", s.Gap(2, mostWords-1), api.ErrRange)
	wantError(t, "Gap", s.Gap(1, mostWords-1), api.OK)
	wantSize(t, s, 1, mostWords-1, false, api.OK)
	wantError(t, "Gap", s.Gap(mostWords-1, 2), api.ErrRange)
	wantError(t, "Gap", s.Gap(mostWords-1, 1), api.OK)
	wantError(t, "Gap", s.Gap(mostWords, 1), api.ErrRange)
	wantSize(t, s, mostWords-1, 1, false, api.OK)
	wantSize(t, s, mostWords, 0, false, api.ErrRange)
}

// P6.1, R1, R2: gaps of too few words wherever they are, and of too many.
func TestGapWrong(t *testing.T) {
	words := filled(10)
	a := arenaOf(t, words...)
	s := object.On(a, tableOf(t, sample...))
	for _, at := range append([]int{0, 1, 2, 8, 9, 10, 11}, extremes...) {
		for _, n := range append([]int{0, 10, 11}, extremes...) {
			want := api.ErrRange
			if n < 1 {
				want = api.ErrArg
			}
			wantError(t, "wrong Gap", s.Gap(at, n), want)
		}
		if at < 1 || at > 9 {
			wantError(t, "wrong Gap", s.Gap(at, 1), api.ErrRange)
		}
		if at < 1 || at > 8 {
			wantError(t, "wrong Gap", s.Gap(at, 2), api.ErrRange)
		}
	}
	for at := 1; at < 10; at++ {
		wantError(t, "Gap of one word more", s.Gap(at, 10-at+1), api.ErrRange)
	}
	wantWords(t, "wrong Gap", a, words)
}

// P6.1: objects and gaps over others.
func TestLayOver(t *testing.T) {
	a := arenaOf(t, filled(8)...)
	s := object.On(a, tableOf(t, sample...))
	s.Lay(1, 4, 0)
	s.SetRef(1, 0, 5)
	s.SetRef(1, 1, 6)
	wantError(t, "Gap over an object", s.Gap(1, 4), api.OK)
	wantWords(t, "Gap over an object", a, []int{-100, 0, 4, 5, 6, -105, -106, -107})
	wantError(t, "Gap over a gap", s.Gap(1, 1), api.OK)
	wantWords(t, "Gap over a gap", a, []int{-100, mark, 4, 5, 6, -105, -106, -107})
	wantError(t, "Gap over a gap", s.Gap(1, 7), api.OK)
	wantWords(t, "Gap over a gap", a, []int{-100, 0, 7, 5, 6, -105, -106, -107})
	wantError(t, "Lay over a gap", s.Lay(2, 2, 2), api.OK)
	wantWords(t, "Lay over a gap", a, []int{-100, 0, 2, 2, 0, 0, -106, -107})
	wantError(t, "Lay over an object", s.Lay(2, 1, 0), api.OK)
	wantWords(t, "Lay over an object", a, []int{-100, 0, 1, 0, 0, 0, -106, -107})
}

// P6.2: what is at each of the addresses of an arena with objects, gaps, and words that are neither.
func TestSize(t *testing.T) {
	words := []int{
		1, 1, 0, 5, -9, // an object at 1; the word 0 at 2 is a header, and 5 tells of a gap there
		mark,     // a gap of one word at 5
		0, 3, -1, // a gap of three words at 6; its 3 is a header of class 3, but -1 is no length
		2, 2, 0, 0, // an Array with two references at 9; at 10 is one too, with none; at 11 nothing
		4 + final, 0, // an object at 13 that has too few words
	}
	s := object.On(arenaOf(t, words...), tableOf(t, sample...))
	for at, want := range []struct {
		words int
		is    bool
		err   api.Errno
	}{
		{0, false, api.ErrRange}, {4, true, api.OK}, {5, false, api.OK}, {0, false, api.ErrForm}, {0, false, api.ErrForm},
		{1, false, api.OK}, {3, false, api.OK}, {0, false, api.ErrForm}, {0, false, api.ErrForm},
		{4, true, api.OK}, {2, true, api.OK}, {0, false, api.ErrForm}, {0, false, api.ErrForm},
		{0, false, api.ErrForm}, {0, false, api.ErrForm}, {0, false, api.ErrRange}, {0, false, api.ErrRange},
	} {
		wantSize(t, s, at, want.words, want.is, want.err)
	}
	for _, at := range extremes {
		wantSize(t, s, at, 0, false, api.ErrRange)
	}
}

// P6.2: first words that are headers and that are not, before a word that would be right for either.
func TestSizeHeads(t *testing.T) {
	for _, x := range []struct {
		first, second, words int
		is                   bool
		err                  api.Errno
	}{
		{3, 0, 2, true, api.OK}, {3 + 64*7, 0, 2, true, api.OK}, {3 + 64*8, 0, 0, false, api.ErrForm}, {3 + 64*15, 0, 0, false, api.ErrForm},
		{3 + mark, 0, 2, true, api.OK}, {3 + final, 0, 2, true, api.OK}, {3 + done, 0, 2, true, api.OK},
		{3 + final + done, 0, 0, false, api.ErrForm}, {3 + forward, 0, 2, true, api.OK},
		{3 + forward*4095, 0, 2, true, api.OK}, {3 + forward*4096, 0, 0, false, api.ErrForm}, {-3, 0, 0, false, api.ErrForm},
		{3 + mark + done + 64*7 + forward*4095, 0, 2, true, api.OK}, {3 - forward, 0, 0, false, api.ErrForm},
		{6 + final, 0, 5, true, api.OK}, // a header may be Final though its class may not
		{14, 0, 0, false, api.ErrForm}, {63, 0, 0, false, api.ErrForm}, {14 + mark, 2, 0, false, api.ErrForm},
		{math.MinInt, 0, 0, false, api.ErrForm}, {math.MaxInt, 0, 0, false, api.ErrForm}, {math.MinInt + 3, 0, 0, false, api.ErrForm},
		{0, 2, 2, false, api.OK}, {64, 3, 3, false, api.OK}, {64 * 7, 2, 2, false, api.OK}, {64 * 8, 2, 0, false, api.ErrForm},
		{final, 4, 4, false, api.OK}, {done, 2, 2, false, api.OK}, {final + done, 2, 0, false, api.ErrForm},
		{forward * 4095, 2, 2, false, api.OK}, {forward * 4096, 2, 0, false, api.ErrForm}, {-forward, 2, 0, false, api.ErrForm},
		{mark, 2, 1, false, api.OK}, {mark + 64*7, -5, 1, false, api.OK}, {mark + 64*8, 2, 0, false, api.ErrForm},
		{mark + final, 0, 1, false, api.OK}, {mark + done, 0, 1, false, api.OK}, {mark + final + done, 0, 0, false, api.ErrForm},
		{mark + forward*4095, 1, 1, false, api.OK}, {mark + forward*4096, 1, 0, false, api.ErrForm}, {mark - forward, 1, 0, false, api.ErrForm},
		{math.MinInt + mark, 1, 0, false, api.ErrForm}, {-1, 2, 0, false, api.ErrForm},
	} {
		a := arenaOf(t, -1, x.first, x.second, -1, -1, -1)
		wantSize(t, object.On(a, tableOf(t, sample...)), 1, x.words, x.is, x.err)
	}
}

// P6.2: each number that a length, or a gap's number of words, may be and may not be.
func TestSizeSeconds(t *testing.T) {
	const size = 40
	c := tableOf(t, sample...)
	seconds := append([]int{39, 40, 41, 4096}, extremes...)
	for n := -3; n <= 38; n++ {
		seconds = append(seconds, n)
	}
	for _, second := range seconds {
		for at := 1; at < size; at++ {
			for _, first := range []int{0, 2, 9 + final, 1, 6, 10, 12} {
				words := filled(size)
				words[at] = first
				if at+1 < size {
					words[at+1] = second
				}
				x := said(words, sample, at)
				wantSize(t, object.On(arenaOf(t, words...), c), at, x.words, x.is, x.err)
			}
		}
	}
}

// P6.2: objects and gaps at an arena's end, with the last word that they need, and without it.
func TestSizeAtTheEnd(t *testing.T) {
	c := tableOf(t, sample...)
	for i, x := range sample {
		for _, length := range lengths(x) {
			words := append([]int{0, 0}, laid(x, i+1, length)...)
			size := len(words) - 2
			wantSize(t, object.On(arenaOf(t, words...), c), 2, size, true, api.OK)
			for less := 1; less < size; less++ {
				wantSize(t, object.On(arenaOf(t, words[:len(words)-less]...), c), 2, 0, false, api.ErrForm)
			}
			wantSize(t, object.On(arenaOf(t, words[:2]...), c), 2, 0, false, api.ErrRange)
		}
	}
	for _, gap := range []struct {
		words []int // all but address 0
		size  int
		err   api.Errno
	}{
		{[]int{mark}, 1, api.OK}, {[]int{0}, 0, api.ErrForm}, {[]int{0, 1}, 0, api.ErrForm}, {[]int{0, 2}, 2, api.OK},
		{[]int{0, 3}, 0, api.ErrForm}, {[]int{0, 3, -1}, 3, api.OK}, {[]int{0, 4, -1}, 0, api.ErrForm},
	} {
		wantSize(t, object.On(arenaOf(t, append([]int{0}, gap.words...)...), c), 1, gap.size, false, gap.err)
	}
}

// P6.2, R1, R2: all that can be asked and written, at each address of every arena of few words that are of interest.
func TestEveryWord(t *testing.T) {
	classes := []api.Class{{Kind: api.Plain, Refs: 1, Data: 1}, {Kind: api.Array}, {Kind: api.Plain, Data: 1, Final: true}}
	c := tableOf(t, classes...)
	some := []int{0, 1, 2, 3 + final, 4, mark, 1 + mark + 64*7, 64, final + done, -1, math.MaxInt}
	words := make([]int, 5)
	var lay func(at int)
	lay = func(at int) {
		if at == len(words) {
			for at := -1; at <= len(words)+1; at++ {
				wantSaid(t, c, classes, words, at)
			}
			return
		}
		for _, w := range some {
			words[at] = w
			lay(at + 1)
		}
	}
	lay(1)
}

// P6.2, R1: the same at addresses that are far outside.
func TestFarOutside(t *testing.T) {
	c := tableOf(t, sample...)
	for _, words := range [][]int{nil, {0}, {0, mark}, {0, 3, 0}, {0, 0, 4, 1, 1}, append([]int{0}, laid(sample[12], 13, 0)...)} {
		for _, at := range append([]int{0, len(words), len(words) + 1}, extremes...) {
			wantSaid(t, c, sample, words, at)
		}
	}
}

// P6.2: each reference and number of each class is a word of its own, whatever is in it.
func TestFields(t *testing.T) {
	c := tableOf(t, sample...)
	for i, x := range sample {
		for _, length := range lengths(x) {
			words := filled(50)
			copy(words[7:], laid(x, i+1, length))
			a := arenaOf(t, words...)
			s := object.On(a, c)
			for field := range x.Refs + length {
				for _, to := range []int{7, 1, -1, math.MaxInt, math.MinInt, 1000 + field} {
					wantError(t, "SetRef", s.SetRef(7, field, to), api.OK)
					words[9+field] = to
					wantRef(t, s, 7, field, to, api.OK)
					wantWords(t, "SetRef", a, words)
				}
			}
			for field := range x.Data {
				for _, n := range []int{7, 1, -1, math.MaxInt, math.MinInt, 2000 + field} {
					wantError(t, "SetNum", s.SetNum(7, field, n), api.OK)
					words[9+x.Refs+length+field] = n
					wantNum(t, s, 7, field, n, api.OK)
					wantWords(t, "SetNum", a, words)
				}
			}
			wantSaid(t, c, sample, words, 7)
		}
	}
}

// P6.2, R1, R2: fields that an object does not have.
func TestFieldsOutside(t *testing.T) {
	c := tableOf(t, sample...)
	for i, x := range sample {
		for _, length := range lengths(x) {
			words := filled(50)
			copy(words[7:], laid(x, i+1, length))
			a := arenaOf(t, words...)
			s := object.On(a, c)
			refs := x.Refs + length
			for _, field := range append([]int{refs, refs + 1, refs + x.Data, 30, 31, 32}, extremes...) {
				if field >= refs || field < 0 {
					wantRef(t, s, 7, field, 0, api.ErrArg)
					wantError(t, "SetRef outside", s.SetRef(7, field, 1), api.ErrArg)
				}
			}
			for _, field := range append([]int{x.Data, x.Data + 1, refs + x.Data, 30, 31, 32}, extremes...) {
				if field >= x.Data || field < 0 {
					wantNum(t, s, 7, field, 0, api.ErrArg)
					wantError(t, "SetNum outside", s.SetNum(7, field, 1), api.ErrArg)
				}
			}
			wantWords(t, "fields outside", a, words)
		}
	}
}

// P6.2: each part of a header is set, and no other word.
func TestSetHead(t *testing.T) {
	c := tableOf(t, sample...)
	for i, x := range sample {
		for _, length := range lengths(x) {
			words := filled(40)
			copy(words[2:], laid(x, i+1, length))
			a := arenaOf(t, words...)
			s := object.On(a, c)
			for _, part := range []struct {
				h   head.Head
				sum int
			}{
				{head.Head{}, 0}, {head.Head{Age: 1}, 64}, {head.Head{Age: 7}, 64 * 7}, {head.Head{Forward: 1}, forward},
				{head.Head{Forward: 4095}, forward * 4095}, {head.Head{Mark: true}, mark}, {head.Head{Final: true}, final},
				{head.Head{Done: true}, done}, {head.Head{Age: 7, Forward: 4095, Mark: true, Done: true}, 64*7 + forward*4095 + mark + done},
				{head.Head{Age: 2, Forward: 9, Final: true}, 64*2 + forward*9 + final}, {head.Head{}, 0},
			} {
				h := part.h
				h.Class = i + 1
				words[2] = h.Class + part.sum
				wantError(t, "SetHead", s.SetHead(2, h), api.OK)
				wantWords(t, "SetHead", a, words)
				wantHead(t, s, 2, h, api.OK)
				wantSize(t, s, 2, 2+x.Refs+x.Data+length, true, api.OK)
			}
		}
	}
}

// wrongHeads are headers that are not valid, but one part of which the object of class 1 might have.
var wrongHeads = []head.Head{
	{Class: 1, Age: -1}, {Class: 1, Age: 8}, {Class: 1, Age: math.MaxInt}, {Class: 1, Age: math.MinInt},
	{Class: 1, Forward: -1}, {Class: 1, Forward: 4096}, {Class: 1, Forward: math.MaxInt}, {Class: 1, Forward: math.MinInt},
	{Class: 1, Final: true, Done: true}, {Class: 1, Forward: 1 << 51}, {Class: 1, Age: 1 << 58}, {Class: 1, Age: 1 << 4},
}

// P6.2, R2: headers that are not valid, or have another class.
func TestSetHeadWrong(t *testing.T) {
	words := []int{-7, 1 + 64*3 + final, 0, 5, 9, mark, 0, 3, -1}
	a := arenaOf(t, words...)
	s := object.On(a, tableOf(t, sample...))
	for _, h := range wrongHeads {
		wantError(t, "SetHead that is not valid", s.SetHead(1, h), api.ErrArg)
	}
	for _, n := range append([]int{0, 2, 3, 13, 14, 63, 64, 65, 129}, extremes...) {
		wantError(t, "SetHead of another class", s.SetHead(1, head.Head{Class: n}), api.ErrArg)
		wantError(t, "SetHead of another class", s.SetHead(1, head.Head{Class: n, Age: 3, Final: true}), api.ErrArg)
	}
	wantWords(t, "wrong SetHead", a, words)
}

// P6.2, R1: the errors of the address come before those of the header and of the field.
func TestErrorsInOrder(t *testing.T) {
	words := []int{-7, 1, 0, 5, 9, mark, 0, 3, -1}
	a := arenaOf(t, words...)
	s := object.On(a, tableOf(t, sample...))
	for _, x := range []struct {
		at  int
		err api.Errno
	}{
		{0, api.ErrRange}, {-1, api.ErrRange}, {9, api.ErrRange}, {math.MaxInt, api.ErrRange}, {math.MinInt, api.ErrRange},
		{4, api.ErrForm}, {7, api.ErrForm}, {8, api.ErrForm}, {5, api.ErrKind}, {6, api.ErrKind},
	} {
		for _, h := range append(wrongHeads, head.Head{Class: 1}, head.Head{}, head.Head{Mark: true}, head.Head{Class: 3}) {
			wantError(t, "SetHead", s.SetHead(x.at, h), x.err)
		}
		for _, field := range append([]int{0, 1, 2}, extremes...) {
			wantRef(t, s, x.at, field, 0, x.err)
			wantNum(t, s, x.at, field, 0, x.err)
			wantError(t, "SetRef", s.SetRef(x.at, field, 1), x.err)
			wantError(t, "SetNum", s.SetNum(x.at, field, 1), x.err)
		}
		wantShape(t, s, x.at, 0, 0, x.err)
		wantHead(t, s, x.at, head.Head{}, x.err)
	}
	wantWords(t, "after errors", a, words)
}

// mixed is objects at 1, 5, 11 and 16, gaps at 9, 10 and 13, and nothing at 18; 20 words.
func mixed() []int {
	return []int{
		-1,
		1, 0, 5, -9, // an object
		2, 2, 1, 11, // an Array
		mark,        // a gap
		mark + 64,   // another one
		3 + mark, 0, // an object, marked
		0, 3, -8, // a gap
		9 + final, 0, // an Array of no references
		-4, -4, // no header
	}
}

// P6.3: from and to at, between and inside objects.
func TestWalk(t *testing.T) {
	words := mixed()
	a := arenaOf(t, words...)
	s := object.On(a, tableOf(t, sample...))
	for _, x := range []struct {
		from, to int
		want     []int
		err      api.Errno
	}{
		{1, 18, []int{1, 5, 11, 16}, api.OK}, {1, 16, []int{1, 5, 11}, api.OK}, {1, 13, []int{1, 5, 11}, api.OK},
		{1, 11, []int{1, 5}, api.OK}, {1, 10, []int{1, 5}, api.OK}, {1, 9, []int{1, 5}, api.OK}, {1, 5, []int{1}, api.OK},
		{5, 18, []int{5, 11, 16}, api.OK}, {9, 18, []int{11, 16}, api.OK}, {10, 18, []int{11, 16}, api.OK},
		{11, 18, []int{11, 16}, api.OK}, {13, 18, []int{16}, api.OK}, {16, 18, []int{16}, api.OK},
		{9, 10, nil, api.OK}, {9, 11, nil, api.OK}, {13, 16, nil, api.OK}, {5, 9, []int{5}, api.OK},
		// nothing
		{1, 1, nil, api.OK}, {5, 1, nil, api.OK}, {18, 18, nil, api.OK}, {20, 20, nil, api.OK}, {0, 0, nil, api.OK},
		{-3, -3, nil, api.OK}, {30, 21, nil, api.OK}, {-3, -9, nil, api.OK}, {math.MaxInt, math.MinInt, nil, api.OK},
		{4, 4, nil, api.OK}, {math.MaxInt, math.MaxInt, nil, api.OK}, {math.MinInt, math.MinInt, nil, api.OK},
		// into the middle
		{1, 2, nil, api.ErrForm}, {1, 3, nil, api.ErrForm}, {1, 4, nil, api.ErrForm}, {1, 6, nil, api.ErrForm},
		{1, 8, nil, api.ErrForm}, {1, 12, nil, api.ErrForm}, {1, 14, nil, api.ErrForm}, {1, 15, nil, api.ErrForm},
		{13, 14, nil, api.ErrForm}, {1, 17, nil, api.ErrForm}, {16, 17, nil, api.ErrForm},
		// over what is neither an object nor a gap
		{1, 19, nil, api.ErrForm}, {18, 19, nil, api.ErrForm}, {18, 20, nil, api.ErrForm}, {1, 20, nil, api.ErrForm},
		{1, 21, nil, api.ErrForm}, {1, math.MaxInt, nil, api.ErrForm}, {4, 18, nil, api.ErrForm}, {4, 5, nil, api.ErrForm},
		{3, 18, nil, api.ErrForm},
		// outside
		{0, 18, nil, api.ErrRange}, {0, 1, nil, api.ErrRange}, {-1, 18, nil, api.ErrRange}, {-1, 0, nil, api.ErrRange},
		{math.MinInt, math.MaxInt, nil, api.ErrRange}, {math.MinInt, 1, nil, api.ErrRange}, {20, 21, nil, api.ErrRange},
		{21, 22, nil, api.ErrRange}, {math.MaxInt - 1, math.MaxInt, nil, api.ErrRange},
	} {
		wantWalk(t, s, x.from, x.to, x.want, x.err)
	}
	wantWords(t, "Walk", a, words)
}

// P6.3: to the arena's end, and beyond it.
func TestWalkToTheEnd(t *testing.T) {
	c := tableOf(t, sample...)
	for _, x := range []struct {
		words, want []int
	}{
		{mixed()[:18], []int{1, 5, 11, 16}}, {mixed()[:16], []int{1, 5, 11}}, {mixed()[:13], []int{1, 5, 11}},
		{mixed()[:10], []int{1, 5}}, {mixed()[:5], []int{1}}, {mixed()[:1], nil},
	} {
		s := object.On(arenaOf(t, x.words...), c)
		end := len(x.words)
		wantWalk(t, s, 1, end, x.want, api.OK)
		for _, beyond := range []int{end + 1, end + 2, end + 40, 4096, 4097, math.MaxInt - 1, math.MaxInt} {
			wantWalk(t, s, 1, beyond, nil, api.ErrRange)
		}
	}
	for _, words := range [][]int{mixed()[:17], mixed()[:15], mixed()[:12], mixed()[:8], mixed()[:2]} {
		s := object.On(arenaOf(t, words...), c)
		wantWalk(t, s, 1, len(words), nil, api.ErrForm)
		wantWalk(t, s, 1, math.MaxInt, nil, api.ErrForm)
	}
}

// walked works out of words and classes alone what Walk returns.
func walked(words []int, classes []api.Class, from, to int) ([]int, api.Errno) {
	list := []int{}
	for from < to {
		x := said(words, classes, from)
		if x.err != api.OK {
			return nil, x.err
		}
		if x.is {
			list = append(list, from)
		}
		from += x.words
		if from > to {
			return nil, api.ErrForm
		}
	}
	return list, api.OK
}

// P6.3: from each address to each one, inside and outside of an arena.
func TestWalkEverywhere(t *testing.T) {
	c := tableOf(t, sample...)
	for _, words := range [][]int{mixed(), mixed()[:18], {0}, {0, 2, 1, 2, 0, mark, 0, 2}} {
		a := arenaOf(t, words...)
		s := object.On(a, c)
		ends := append([]int{math.MinInt, math.MinInt + 1, math.MaxInt - 1, math.MaxInt}, 4096, 4097)
		for n := -3; n <= len(words)+3; n++ {
			ends = append(ends, n)
		}
		for _, from := range ends {
			for _, to := range ends {
				want, e := walked(words, sample, from, to)
				wantWalk(t, s, from, to, want, e)
			}
		}
		wantWords(t, "Walk", a, words)
	}
}

// P6.3, R3, R6: each answer of Walk is a list of its own, and the same as before.
func TestWalkIsACopy(t *testing.T) {
	words := mixed()
	a := arenaOf(t, words...)
	s := object.On(a, tableOf(t, sample...))
	want := []int{1, 5, 11, 16}
	l, _ := s.Walk(1, 18)
	again, _ := s.Walk(1, 18)
	clear(l[:cap(l)])
	_ = append(l[:0], 7, 8, 9)
	if !slices.Equal(again, want) {
		t.Errorf("two lists share memory: %v", again)
	}
	wantWalk(t, s, 1, 18, want, api.OK)
	wantWords(t, "writing to a list", a, words)
}

// P6.4, P6.3: the greatest arena, full of objects of the least size, and of one-word gaps.
func TestGreatestArena(t *testing.T) {
	a := mem.New(mostWords)
	s := object.On(a, tableOf(t, sample...))
	var want []int
	at := 1
	for ; at+2 <= mostWords; at += 2 {
		wantError(t, "Lay", s.Lay(at, 3, 0), api.OK)
		want = append(want, at)
	}
	wantError(t, "Lay beyond", s.Lay(at, 3, 0), api.ErrRange)
	wantError(t, "Gap", s.Gap(at, 1), api.OK)
	wantWalk(t, s, 1, mostWords, want, api.OK)
	wantWalk(t, s, 1, mostWords+1, nil, api.ErrRange)
	for at := 1; at < mostWords; at++ {
		wantError(t, "Gap", s.Gap(at, 1), api.OK)
	}
	wantWalk(t, s, 1, mostWords, nil, api.OK)
}

// row lays an object of each class and length that the sample has, one after the other, and tells their addresses.
func row(t *testing.T, s object.Store, from int) (list []int, to int) {
	t.Helper()
	for i, x := range sample {
		for _, length := range lengths(x) {
			wantError(t, "Lay", s.Lay(from, i+1, length), api.OK)
			list = append(list, from)
			from += 2 + x.Refs + x.Data + length
		}
	}
	return list, from
}

// P6.4: objects that are laid out one after the other are visited in order, with gaps between them or without.
func TestRow(t *testing.T) {
	a := arenaOf(t, filled(1000)...)
	s := object.On(a, tableOf(t, sample...))
	list, to := row(t, s, 1)
	wantWalk(t, s, 1, to, list, api.OK)
	for i, at := range list {
		wantWalk(t, s, at, to, list[i:], api.OK)
		wantWalk(t, s, 1, at, list[:i], api.OK)
	}
	for i := 0; i < len(list); i += 3 {
		words, _, _ := s.Size(list[i])
		wantError(t, "Gap", s.Gap(list[i], words), api.OK)
	}
	var rest []int
	for i, at := range list {
		if i%3 != 0 {
			rest = append(rest, at)
		}
	}
	wantWalk(t, s, 1, to, rest, api.OK)
	next, end := row(t, s, to)
	wantWalk(t, s, 1, end, append(rest, next...), api.OK)
}

// P6.4: writing to one object leaves every word of the others, and behind and before them, as it is.
func TestObjectsApart(t *testing.T) {
	a := arenaOf(t, filled(1000)...)
	s := object.On(a, tableOf(t, sample...))
	list, to := row(t, s, 1)
	for _, at := range list {
		was := wholeOf(a)
		words, _, _ := s.Size(at)
		refs, data, _ := s.Shape(at)
		h, _ := s.Head(at)
		h.Age, h.Forward = 5, at
		wantError(t, "SetHead", s.SetHead(at, h), api.OK)
		for field := range refs {
			wantError(t, "SetRef", s.SetRef(at, field, 3*at+field), api.OK)
		}
		for field := range data {
			wantError(t, "SetNum", s.SetNum(at, field, -at-field), api.OK)
		}
		is := wholeOf(a)
		if !slices.Equal(is[:at], was[:at]) || !slices.Equal(is[at+words:], was[at+words:]) {
			t.Errorf("writing to the object at %d changed what is around it", at)
		}
	}
	wantWalk(t, s, 1, to, list, api.OK)
	for _, at := range list {
		refs, data, _ := s.Shape(at)
		for field := range refs {
			wantRef(t, s, at, field, 3*at+field, api.OK)
		}
		for field := range data {
			wantNum(t, s, at, field, -at-field, api.OK)
		}
	}
}

// P6.1: the zero Store is that of no arena and no table.
func TestZeroStore(t *testing.T) {
	if (object.Store{}) != object.On(nil, nil) {
		t.Error("the zero Store is not On(nil, nil)")
	}
	c := tableOf(t, sample...)
	for _, s := range []object.Store{
		{}, object.On(nil, nil), object.On(&mem.Arena{}, nil), object.On(nil, &class.Table{}), object.On(nil, c), object.On(mem.New(0), c),
	} {
		for _, at := range append([]int{0, 1, 2, 4095, 4096}, extremes...) {
			wantNothing(t, s, at, api.ErrRange)
			wantError(t, "Lay of no class", s.Lay(at, 0, 0), api.ErrClass)
			wantError(t, "Gap of nothing", s.Gap(at, 0), api.ErrArg)
			wantError(t, "Gap", s.Gap(at, 1), api.ErrRange)
			wantError(t, "Gap", s.Gap(at, math.MaxInt), api.ErrRange)
			wantWalk(t, s, at, at, nil, api.OK)
			wantWalk(t, s, at, math.MinInt, nil, api.OK)
		}
		wantWalk(t, s, 1, 2, nil, api.ErrRange)
		wantWalk(t, s, math.MinInt, math.MaxInt, nil, api.ErrRange)
	}
	wantError(t, "Lay without an arena", object.On(nil, c).Lay(1, 3, 0), api.ErrRange)
	wantError(t, "Lay without an arena", object.On(nil, c).Lay(1, 3, 1), api.ErrArg)
	wantError(t, "Lay without an arena", object.On(nil, c).Lay(1, 2, 31), api.ErrLarge)
	wantError(t, "Lay without both", object.On(nil, nil).Lay(1, 3, 0), api.ErrClass)
}

// wantNothing holds that there is no object at an address, with what error.
func wantNothing(t *testing.T, s object.Store, at int, err api.Errno) {
	t.Helper()
	size := err
	if err == api.ErrKind {
		size = api.OK
	}
	if _, is, e := s.Size(at); is || e != size {
		t.Errorf("Size(%d): %t, %d, want %d", at, is, e, size)
	}
	wantShape(t, s, at, 0, 0, err)
	wantHead(t, s, at, head.Head{}, err)
	wantError(t, "SetHead", s.SetHead(at, head.Head{Class: 1}), err)
	wantRef(t, s, at, 0, 0, err)
	wantNum(t, s, at, 0, 0, err)
	wantError(t, "SetRef", s.SetRef(at, 0, 1), err)
	wantError(t, "SetNum", s.SetNum(at, 0, 1), err)
}

// P6.1, P6.2: without a table, or with one of no classes, there are gaps, but no objects.
func TestNoTable(t *testing.T) {
	for _, c := range []*class.Table{nil, {}, tableOf(t)} {
		words := mixed()
		a := arenaOf(t, words...)
		s := object.On(a, c)
		wantError(t, "Lay", s.Lay(1, 1, 0), api.ErrClass)
		wantNothing(t, s, 1, api.ErrForm)
		wantNothing(t, s, 9, api.ErrKind)
		wantNothing(t, s, 13, api.ErrKind)
		wantSize(t, s, 9, 1, false, api.OK)
		wantSize(t, s, 13, 3, false, api.OK)
		wantNothing(t, s, 0, api.ErrRange)
		wantWalk(t, s, 9, 11, nil, api.OK)
		wantWalk(t, s, 1, 18, nil, api.ErrForm)
		wantWords(t, "without a table", a, words)
		wantError(t, "Gap", s.Gap(1, 8), api.OK)
		wantWalk(t, s, 1, 11, nil, api.OK)
	}
}

// R6: a store keeps nothing: it is the arena that changes, whoever writes to it, and other arenas do not.
func TestNothingKept(t *testing.T) {
	c := tableOf(t, sample...)
	a, b := arenaOf(t, mixed()...), arenaOf(t, mixed()...)
	s, same, apart := object.On(a, c), object.On(a, c), object.On(b, c)
	s.SetNum(1, 0, 77)
	s.SetRef(5, 1, 16)
	s.Gap(13, 1)
	wantNum(t, same, 1, 0, 77, api.OK)
	wantRef(t, same, 5, 1, 16, api.OK)
	wantSize(t, same, 13, 1, false, api.OK)
	wantWords(t, "the other arena", b, mixed())
	wantNum(t, apart, 1, 0, -9, api.OK)
	a.Store(1, -1)
	wantNothing(t, s, 1, api.ErrForm)
	a.Store(1, 1)
	wantNum(t, s, 1, 0, 77, api.OK)
	// the same words with other classes are another object
	wantShape(t, object.On(a, tableOf(t, api.Class{Kind: api.Plain, Data: 2})), 1, 0, 2, api.OK)
}
