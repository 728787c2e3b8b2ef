package head_test

import (
	"math"
	"testing"

	"gleaning/api"
	"gleaning/head"
)

// The chapter's numbers, written out, so that a limit taken wrongly is seen.
const (
	mostClass   = 63
	mostAge     = 7
	mostForward = 4095
	mostWord    = mostClass + 64*mostAge + 1024 + 4096 + 8192*mostForward
	words       = 8192 * (mostForward + 1) // no encoding is as great
)

// flags are what may be set together; {true, true} for Final and Done may not be.
var flags = []head.Head{
	{}, {Mark: true}, {Final: true}, {Done: true}, {Mark: true, Final: true}, {Mark: true, Done: true},
}

// wild are numbers that are no class, no age and no address; many of them become one if they are shifted or summed with a wrap round.
var wild = []int{
	math.MinInt, math.MinInt + 1, math.MinInt + 63, math.MinInt / 2, math.MinInt / 64, math.MinInt / 8192, math.MinInt/8192 + 1,
	-1 << 58, -1 << 57, -1 << 51, -1 << 50, -1 << 32, -1<<32 + 1, math.MinInt32,
	-8192, -4097, -4096, -4095, -65, -64, -63, -8, -7, -2, -1,
	4096, 4097, 8191, 8192, 1 << 16, math.MaxInt32, 1 << 32, 1<<32 + 1, 1 << 48,
	1 << 50, 1<<50 + 1, 1 << 51, 1<<51 + 1, 1<<51 + 4095, 1<<52 + 5, 1 << 57, 1 << 58, 1<<58 + 1, 1<<58 + 7, 1<<59 + 2,
	math.MaxInt / 8192, math.MaxInt/8192 + 1, math.MaxInt / 64, math.MaxInt/64 + 1, math.MaxInt / 2, math.MaxInt/2 + 1,
	math.MaxInt - 63, math.MaxInt - 1, math.MaxInt,
}

// encoded is the chapter's sum.
func encoded(h head.Head) int {
	sum := h.Class + 64*h.Age + 8192*h.Forward
	if h.Mark {
		sum += 1024
	}
	if h.Final {
		sum += 2048
	}
	if h.Done {
		sum += 4096
	}
	return sum
}

// decoded takes a word apart by division; what is no encoding is told by false.
func decoded(word int) (head.Head, bool) {
	if word < 0 || word >= words {
		return head.Head{}, false
	}
	h := head.Head{
		Class: word % 64, Age: word / 64 % 16, Forward: word / 8192,
		Mark: word/1024%2 == 1, Final: word/2048%2 == 1, Done: word/4096%2 == 1,
	}
	if h.Age > mostAge || h.Final && h.Done {
		return head.Head{}, false
	}
	return h, true
}

// wantRight holds a valid header against all calls.
func wantRight(t *testing.T, h head.Head) {
	t.Helper()
	want := encoded(h)
	if !h.Right() {
		t.Errorf("%+v: Right() = false", h)
	}
	if w, e := h.Word(); w != want || e != api.OK {
		t.Errorf("%+v: Word() = %d, %d, want %d", h, w, e, want)
	}
	if x, e := head.Of(want); x != h || e != api.OK {
		t.Errorf("Of(%d) = %+v, %d, want %+v", want, x, e, h)
	}
}

// wantWrong holds a header that is not valid against Right and Word.
func wantWrong(t *testing.T, h head.Head) {
	t.Helper()
	if h.Right() {
		t.Errorf("%+v: Right() = true", h)
	}
	if w, e := h.Word(); w != 0 || e != api.ErrArg {
		t.Errorf("%+v: Word() = %d, %d, want 0, %d", h, w, e, api.ErrArg)
	}
}

// wantNone holds a word that is no encoding against Of.
func wantNone(t *testing.T, word int) {
	t.Helper()
	if h, e := head.Of(word); h != (head.Head{}) || e != api.ErrForm {
		t.Errorf("Of(%d) = %+v, %d, want the zero Head, %d", word, h, e, api.ErrForm)
	}
}

// The chapter's example.
func TestExample(t *testing.T) {
	h := head.Head{Class: 3, Age: 2, Final: true}
	if w, e := h.Word(); w != 2179 || e != api.OK {
		t.Errorf("Word() = %d, %d", w, e)
	}
	wantRight(t, h)
}

// P4.1: each part by itself, at numbers that are worked out by hand.
func TestEncoding(t *testing.T) {
	for _, c := range []struct {
		h    head.Head
		word int
	}{
		{head.Head{}, 0},
		{head.Head{Class: 1}, 1},
		{head.Head{Class: 63}, 63},
		{head.Head{Age: 1}, 64},
		{head.Head{Age: 7}, 448},
		{head.Head{Mark: true}, 1024},
		{head.Head{Final: true}, 2048},
		{head.Head{Mark: true, Final: true}, 3072},
		{head.Head{Done: true}, 4096},
		{head.Head{Mark: true, Done: true}, 5120},
		{head.Head{Forward: 1}, 8192},
		{head.Head{Forward: 4095}, 33546240},
		{head.Head{Class: 63, Age: 7, Mark: true, Done: true}, 5631},
		{head.Head{Class: 63, Age: 7, Forward: 4095, Mark: true, Final: true}, 33549823},
		{head.Head{Class: 63, Age: 7, Forward: 4095, Mark: true, Done: true}, 33551871},
	} {
		if w, e := c.h.Word(); w != c.word || e != api.OK {
			t.Errorf("%+v: Word() = %d, %d, want %d", c.h, w, e, c.word)
		}
		if h, e := head.Of(c.word); h != c.h || e != api.OK {
			t.Errorf("Of(%d) = %+v, %d, want %+v", c.word, h, e, c.h)
		}
	}
}

// P4.1: all parts at their least, their greatest and between, with all flags that may be together.
func TestRightEdges(t *testing.T) {
	for _, f := range flags {
		for _, class := range []int{0, 1, 31, 32, 62, mostClass} {
			for _, age := range []int{0, 1, 3, 4, 6, mostAge} {
				for _, forward := range []int{0, 1, 2047, 2048, 4094, mostForward} {
					f.Class, f.Age, f.Forward = class, age, forward
					wantRight(t, f)
				}
			}
		}
	}
}

// P4.1: one part that is one below its least, one beyond its greatest, or far outside, whatever the others are.
func TestWrongPart(t *testing.T) {
	for _, f := range flags {
		for _, rest := range []head.Head{{}, {Class: 5, Age: 2, Forward: 70}, {Class: mostClass, Age: mostAge, Forward: mostForward}} {
			rest.Mark, rest.Final, rest.Done = f.Mark, f.Final, f.Done
			wantRight(t, rest)
			for _, n := range append([]int{64, 65, 127, 128}, wild...) {
				h := rest
				h.Class = n
				wantWrong(t, h)
			}
			for _, n := range append([]int{8, 9, 15, 16, 17, 64}, wild...) {
				h := rest
				h.Age = n
				wantWrong(t, h)
			}
			for _, n := range wild {
				h := rest
				h.Forward = n
				wantWrong(t, h)
			}
		}
	}
}

// P4.1: parts that are wrong together don't make up for each other, though their sum may be an encoding.
func TestWrongTogether(t *testing.T) {
	for _, a := range wild {
		for _, b := range wild {
			wantWrong(t, head.Head{Class: a, Age: b})
			wantWrong(t, head.Head{Class: a, Forward: b})
			wantWrong(t, head.Head{Age: a, Forward: b})
			wantWrong(t, head.Head{Class: a, Age: b, Forward: a})
		}
	}
	wantWrong(t, head.Head{Class: -64, Age: 1})
	wantWrong(t, head.Head{Class: 64, Age: -1})
	wantWrong(t, head.Head{Age: -128, Forward: 1})
	wantWrong(t, head.Head{Age: 128, Forward: -1})
}

// P4.1: Final and Done each may be, and both may not.
func TestFinalAndDone(t *testing.T) {
	for _, mark := range []bool{false, true} {
		for _, h := range []head.Head{{}, {Class: 3, Age: 2}, {Forward: 9}, {Class: mostClass, Age: mostAge, Forward: mostForward}} {
			h.Mark = mark
			wantRight(t, h)
			h.Final = true
			wantRight(t, h)
			h.Done = true
			wantWrong(t, h)
			wantNone(t, encoded(h))
			h.Final = false
			wantRight(t, h)
		}
	}
}

// P4.1, R1, R2: words that are no encoding.
func TestOfNone(t *testing.T) {
	for _, word := range []int{
		math.MinInt, math.MinInt + 1, math.MinInt + 63, math.MinInt + 2179, math.MinInt + 8192, math.MinInt / 2,
		-1 << 32, -1<<32 + 2179, math.MinInt32, -words - 1, -words, -words + 1, -8193, -8192, -8191, -2179, -1024, -64, -63, -2, -1,
		8 << 6, 15 << 6, 8<<6 + 63, 8<<6 + 1024, 8<<6 + 8192, 15<<6 + 4095<<13,
		3 << 11, 3<<11 + 63, 7 << 10, 3<<11 + 8192, 3<<11 + 4095<<13, 8191,
		mostWord + 1, words - 1, words, words + 1, words + 63, words + 2179, 2 * words,
		1<<31 + 3, 1 << 32, 1<<32 + 2179, 1 << 62, 1<<62 + 2179, math.MaxInt - 8191, math.MaxInt - 1, math.MaxInt,
	} {
		wantNone(t, word)
	}
	// each bit beyond those of an encoding, the sign among them
	for at := 25; at < 64; at++ {
		wantNone(t, int(uint64(1)<<at))
		wantNone(t, int(uint64(1)<<at|2179))
	}
}

// P4.1: 0 and the greatest encoding, and what lies beside them.
func TestOfEnds(t *testing.T) {
	if h, e := head.Of(0); h != (head.Head{}) || e != api.OK {
		t.Errorf("Of(0) = %+v, %d", h, e)
	}
	most := head.Head{Class: mostClass, Age: mostAge, Forward: mostForward, Mark: true, Done: true}
	if h, e := head.Of(mostWord); h != most || e != api.OK {
		t.Errorf("Of(%d) = %+v, %d", mostWord, h, e)
	}
	if h, e := head.Of(mostWord - 1); h.Class != mostClass-1 || e != api.OK {
		t.Errorf("Of(%d) = %+v, %d", mostWord-1, h, e)
	}
	wantNone(t, -1)
	wantNone(t, mostWord+1)
}

// P4.1, P4.2: every word from some below 0 to some beyond the encodings; Word of each head that Of tells is that word again.
func TestEveryWord(t *testing.T) {
	found := 0
	for word := -70000; word < words+70000; word++ {
		want, is := decoded(word)
		h, e := head.Of(word)
		if h != want || is != (e == api.OK) || !is && e != api.ErrForm {
			t.Fatalf("Of(%d) = %+v, %d, want %+v, %t", word, h, e, want, is)
		}
		if !is {
			continue
		}
		found++
		if w, e := h.Word(); w != word || e != api.OK || !h.Right() {
			t.Fatalf("%+v: Word() = %d, %d, Right() = %t, want %d", h, w, e, h.Right(), word)
		}
	}
	if n := 64 * 8 * 4096 * len(flags); found != n {
		t.Errorf("%d words are encodings, want %d", found, n)
	}
}

// P4.2: every valid header; no two have the same word, and Of tells the header again.
func TestEveryHeader(t *testing.T) {
	seen := make([]bool, words)
	for _, h := range flags {
		for h.Class = 0; h.Class <= mostClass; h.Class++ {
			for h.Age = 0; h.Age <= mostAge; h.Age++ {
				for h.Forward = 0; h.Forward <= mostForward; h.Forward++ {
					w, e := h.Word()
					if e != api.OK || w < 0 || w >= words || seen[w] {
						t.Fatalf("%+v: Word() = %d, %d: wrong, or another header's too", h, w, e)
					}
					seen[w] = true
					if x, e := head.Of(w); x != h || e != api.OK {
						t.Fatalf("%+v: Of(%d) = %+v, %d", h, w, x, e)
					}
				}
			}
		}
	}
}

// P4.2: headers that differ in one part only.
func TestOnePart(t *testing.T) {
	base := head.Head{Class: 3, Age: 2, Forward: 17}
	list := []head.Head{base}
	for _, change := range []func(h *head.Head){
		func(h *head.Head) { h.Class = 4 },
		func(h *head.Head) { h.Class = 0 },
		func(h *head.Head) { h.Age = 3 },
		func(h *head.Head) { h.Age = 0 },
		func(h *head.Head) { h.Forward = 18 },
		func(h *head.Head) { h.Forward = 0 },
		func(h *head.Head) { h.Mark = true },
		func(h *head.Head) { h.Final = true },
		func(h *head.Head) { h.Done = true },
	} {
		h := base
		change(&h)
		list = append(list, h)
	}
	found := map[int]head.Head{}
	for _, h := range list {
		w, e := h.Word()
		if e != api.OK {
			t.Errorf("%+v: error %d", h, e)
		}
		if other, is := found[w]; is {
			t.Errorf("%+v and %+v are both %d", other, h, w)
		}
		found[w] = h
	}
}

// P4.1: up to MaxAge and no further; the other parts stay, and so does the header that was asked.
func TestOlder(t *testing.T) {
	for _, f := range flags {
		for age := range mostAge + 1 {
			h := f
			h.Class, h.Age, h.Forward = 3, age, 17
			was, want := h, h
			want.Age = []int{1, 2, 3, 4, 5, 6, 7, 7}[age]
			if x := h.Older(); x != want {
				t.Errorf("%+v: Older() = %+v", was, x)
			}
			if h != was {
				t.Errorf("%+v became %+v", was, h)
			}
			wantRight(t, h.Older())
		}
	}
	if x := (head.Head{}).Older(); x != (head.Head{Age: 1}) {
		t.Errorf("the zero Head: Older() = %+v", x)
	}
}

// P4.1: from 0 to MaxAge in seven steps, and then it stays.
func TestOlderAgain(t *testing.T) {
	h := head.Head{Class: mostClass, Forward: mostForward, Mark: true, Done: true}
	for step := range 20 {
		if h.Age != min(step, mostAge) {
			t.Errorf("after %d steps the age is %d", step, h.Age)
		}
		h = h.Older()
	}
}

// P4.1, R1: an age outside of 0 to MaxAge is treated by the same rule, and what else is not valid stays as it is.
func TestOlderWrong(t *testing.T) {
	for _, c := range []struct{ age, want int }{
		{-1, 0}, {-2, -1}, {-100, -99}, {math.MinInt32, math.MinInt32 + 1}, {math.MinInt, math.MinInt + 1},
		{8, 7}, {9, 7}, {16, 7}, {math.MaxInt32, 7}, {1 << 58, 7}, {math.MaxInt - 1, 7}, {math.MaxInt, 7},
	} {
		for _, rest := range []head.Head{
			{}, {Class: mostClass, Forward: mostForward}, {Class: -1}, {Class: 64}, {Forward: -1}, {Forward: 4096},
			{Class: math.MaxInt, Forward: math.MinInt}, {Class: math.MinInt, Forward: math.MaxInt},
			{Final: true, Done: true}, {Mark: true, Final: true, Done: true},
		} {
			h, want := rest, rest
			h.Age, want.Age = c.age, c.want
			if x := h.Older(); x != want {
				t.Errorf("%+v: Older() = %+v, want %+v", h, x, want)
			}
			wantWrong(t, h)
		}
	}
	both := head.Head{Class: 64, Age: 2, Forward: -5, Mark: true, Final: true, Done: true}
	want := both
	want.Age = 3
	if x := both.Older(); x != want {
		t.Errorf("%+v: Older() = %+v", both, x)
	}
	wantWrong(t, both.Older())
}

// R6: the same call gives the same result, whatever was asked between.
func TestNothingKept(t *testing.T) {
	h := head.Head{Class: 3, Age: 2, Final: true}
	for range 3 {
		wantRight(t, h)
		wantWrong(t, head.Head{Class: -1, Mark: true, Done: true})
		wantNone(t, -1)
		wantRight(t, head.Head{Class: mostClass, Age: mostAge, Forward: mostForward, Mark: true, Done: true})
	}
}
