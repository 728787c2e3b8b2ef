package class_test

import (
	"math"
	"slices"
	"testing"

	"gleaning/api"
	"gleaning/class"
)

// The chapter's numbers, written out, so that a limit taken wrongly is seen.
const (
	mostFields  = 30 // references and numbers together, with 2 words before them
	mostClasses = 63
)

var (
	kinds          = []int{api.Plain, api.Array, api.Soft, api.Weak, api.Phantom}
	referenceKinds = []int{api.Soft, api.Weak, api.Phantom}
)

// noKinds are numbers that are no kind, some of which become one if they are cut to fewer bits or lose their sign.
var noKinds = []int{
	math.MinInt, math.MinInt + 1, math.MinInt + 3, math.MinInt32, -5, -4, -3, -2, -1, 0, 6, 7, 8, 9, 16, 17, 33, 65,
	255, 256, 257, 258, 259, 260, 261, 1<<16 + 2, math.MaxInt32, 1<<32 + 1, 1<<32 + 2, 1<<32 + 4, math.MaxInt - 1, math.MaxInt,
}

// huge are numbers far beyond those of fields; sums of some of them wrap round to few fields.
var huge = []int{
	1 << 16, 1<<31 - 1, 1 << 31, 1 << 32, 1<<32 + 1, 1<<61 - 1, 1 << 61, 1<<62 - 2, 1<<62 - 1, 1 << 62, 1<<62 + 1,
	math.MaxInt - 33, math.MaxInt - 32, math.MaxInt - 31, math.MaxInt - 30, math.MaxInt - 29, math.MaxInt - 2, math.MaxInt - 1, math.MaxInt,
}

// negative are numbers below 0, down to the least.
var negative = []int{
	-1, -2, -3, -29, -30, -31, -32, -1 << 16, math.MinInt32, -1 << 32, -1<<32 + 1, -1 << 61, -1 << 62,
	math.MinInt + 32, math.MinInt + 31, math.MinInt + 30, math.MinInt + 2, math.MinInt + 1, math.MinInt,
}

// sample has a class of each kind, with as few and as many fields as it may have, and between; numbered from 1 on.
var sample = []api.Class{
	{Kind: api.Plain},
	{Kind: api.Plain, Refs: 2, Data: 1},
	{Kind: api.Plain, Refs: mostFields, Final: true},
	{Kind: api.Plain, Data: mostFields},
	{Kind: api.Array},
	{Kind: api.Array, Final: true},
	{Kind: api.Soft, Refs: 1, Data: 2},
	{Kind: api.Weak, Refs: 3, Data: 4},
	{Kind: api.Phantom, Refs: 28, Data: 2},
	{Kind: api.Soft, Refs: 1, Data: 29},
}

func table(t *testing.T, classes ...api.Class) *class.Table {
	t.Helper()
	c, e := class.New(classes...)
	if e != api.OK || c == nil {
		t.Fatalf("New of %d classes: %v, error %d", len(classes), c, e)
	}
	return c
}

func wantOf(t *testing.T, c *class.Table, n int, want api.Class, err api.Errno) {
	t.Helper()
	if x, e := c.Of(n); x != want || e != err {
		t.Errorf("Of(%d) = %+v, %d, want %+v, %d", n, x, e, want, err)
	}
}

// wantShape holds Shape and Words against what they should be; beside an error both numbers are 0.
func wantShape(t *testing.T, c *class.Table, n, length, refs, data int, err api.Errno) {
	t.Helper()
	if r, d, e := c.Shape(n, length); r != refs || d != data || e != err {
		t.Errorf("Shape(%d, %d) = %d, %d, %d, want %d, %d, %d", n, length, r, d, e, refs, data, err)
	}
	words := 0
	if err == api.OK {
		words = 2 + refs + data
	}
	if w, e := c.Words(n, length); w != words || e != err {
		t.Errorf("Words(%d, %d) = %d, %d, want %d, %d", n, length, w, e, words, err)
	}
}

func wantHolds(t *testing.T, c *class.Table, n, field int, want bool) {
	t.Helper()
	if is := c.Holds(n, field); is != want {
		t.Errorf("Holds(%d, %d) = %t", n, field, is)
	}
}

// wantClasses holds a table against a list of its classes.
func wantClasses(t *testing.T, c *class.Table, want ...api.Class) {
	t.Helper()
	if c.Len() != len(want) {
		t.Errorf("Len() = %d, want %d", c.Len(), len(want))
	}
	for i, x := range want {
		wantOf(t, c, i+1, x, api.OK)
	}
	wantNoClass(t, c, 0)
	wantNoClass(t, c, len(want)+1)
}

// wantNoClass asks for a class that a table doesn't have, with lengths and fields that would be right for one or wrong for all.
func wantNoClass(t *testing.T, c *class.Table, n int) {
	t.Helper()
	wantOf(t, c, n, api.Class{}, api.ErrClass)
	for _, length := range slices.Concat([]int{0, 1, mostFields, mostFields + 1}, huge, negative) {
		wantShape(t, c, n, length, 0, 0, api.ErrClass)
	}
	for _, field := range slices.Concat([]int{0, 1, 2, mostFields}, huge, negative) {
		wantHolds(t, c, n, field, false)
	}
}

// wantNewError holds the error of New, and that there is no table beside it.
func wantNewError(t *testing.T, err api.Errno, classes ...api.Class) {
	t.Helper()
	if c, e := class.New(classes...); c != nil || e != err {
		t.Errorf("New of %d classes = %v, %d, want %d", len(classes), c, e, err)
	}
}

// many is a list of valid classes, of which the first 450 differ from each other.
func many(count int) []api.Class {
	list := make([]api.Class, count)
	for i := range list {
		list[i] = api.Class{Kind: api.Plain, Refs: i % 15, Data: i / 15 % 15, Final: i/225%2 == 1}
	}
	return list
}

// The chapter's example.
func TestExample(t *testing.T) {
	c := table(t, api.Class{Kind: api.Weak, Refs: 1, Data: 2})
	if w, e := c.Words(1, 0); w != 5 || e != api.OK {
		t.Errorf("Words(1, 0) = %d, %d", w, e)
	}
	if c.Holds(1, 0) {
		t.Error("reference 0 holds its target")
	}
}

// wantRight holds Right and New of the one class against what they should be.
func wantRight(t *testing.T, c api.Class, want bool) {
	t.Helper()
	if is := class.Right(c); is != want {
		t.Errorf("Right(%+v) = %t", c, is)
	}
	list, e := class.New(c)
	if want && (e != api.OK || list.Len() != 1) || !want && (e != api.ErrArg || list != nil) {
		t.Errorf("New(%+v) = %v, %d", c, list, e)
	}
}

// P5.1: a Plain class has from 0 to 30 fields in all.
func TestRightPlain(t *testing.T) {
	for _, c := range []struct {
		refs, data int
		want       bool
	}{
		{0, 0, true}, {1, 0, true}, {0, 1, true}, {2, 1, true}, {15, 15, true},
		{29, 0, true}, {30, 0, true}, {31, 0, false}, {32, 0, false},
		{0, 29, true}, {0, 30, true}, {0, 31, false}, {0, 32, false},
		{29, 1, true}, {1, 29, true}, {30, 1, false}, {1, 30, false}, {15, 16, false}, {16, 15, false}, {30, 30, false},
		{-1, 0, false}, {0, -1, false}, {-1, -1, false}, {-1, 1, false}, {1, -1, false}, {31, -1, false}, {-1, 31, false},
	} {
		for _, final := range []bool{false, true} {
			wantRight(t, api.Class{Kind: api.Plain, Refs: c.refs, Data: c.data, Final: final}, c.want)
		}
	}
}

// P5.1: an Array's class states no fields.
func TestRightArray(t *testing.T) {
	for _, final := range []bool{false, true} {
		wantRight(t, api.Class{Kind: api.Array, Final: final}, true)
		for _, n := range slices.Concat([]int{1, 2, 3, 29, 30, 31, 32}, huge, negative) {
			wantRight(t, api.Class{Kind: api.Array, Refs: n, Final: final}, false)
			wantRight(t, api.Class{Kind: api.Array, Data: n, Final: final}, false)
			wantRight(t, api.Class{Kind: api.Array, Refs: n, Data: n, Final: final}, false)
			wantRight(t, api.Class{Kind: api.Array, Refs: n, Data: -n, Final: final}, false)
		}
	}
}

// P5.1: a reference class has a reference and two numbers at least, 30 fields at most, and is not Final.
func TestRightReference(t *testing.T) {
	for _, c := range []struct {
		refs, data int
		want       bool
	}{
		{1, 2, true}, {2, 2, true}, {1, 3, true}, {15, 15, true},
		{0, 0, false}, {1, 0, false}, {0, 1, false}, {1, 1, false}, {0, 2, false}, {0, 3, false}, {0, 30, false},
		{2, 1, false}, {3, 0, false}, {29, 1, false}, {30, 0, false},
		{27, 2, true}, {28, 2, true}, {29, 2, false}, {1, 28, true}, {1, 29, true}, {1, 30, false},
		{27, 3, true}, {28, 3, false}, {2, 28, true}, {2, 29, false}, {15, 16, false}, {30, 30, false}, {30, 2, false},
		{-1, 2, false}, {1, -1, false}, {-1, -1, false}, {-1, 31, false}, {31, -1, false}, {-2, 4, false},
	} {
		for _, kind := range referenceKinds {
			wantRight(t, api.Class{Kind: kind, Refs: c.refs, Data: c.data}, c.want)
			wantRight(t, api.Class{Kind: kind, Refs: c.refs, Data: c.data, Final: true}, false)
		}
	}
}

// P5.1: which kinds a Final class may have.
func TestRightFinal(t *testing.T) {
	for _, c := range []struct {
		kind, refs, data int
		want             bool
	}{
		{api.Plain, 1, 2, true}, {api.Array, 0, 0, true}, {api.Soft, 1, 2, false}, {api.Weak, 1, 2, false}, {api.Phantom, 1, 2, false},
	} {
		wantRight(t, api.Class{Kind: c.kind, Refs: c.refs, Data: c.data}, true)
		wantRight(t, api.Class{Kind: c.kind, Refs: c.refs, Data: c.data, Final: true}, c.want)
	}
}

// P5.1: numbers that are no kind, with fields that each kind may have.
func TestRightNoKind(t *testing.T) {
	for _, kind := range noKinds {
		for _, c := range sample {
			c.Kind = kind
			wantRight(t, c, false)
		}
	}
	wantRight(t, api.Class{}, false)
}

// P5.1, R1: fields that are negative or huge, whose sum may be as that of a valid class if it wraps round.
func TestRightFarOutside(t *testing.T) {
	wild := slices.Concat(huge, negative)
	for _, kind := range kinds {
		for _, a := range wild {
			for _, b := range []int{0, 1, 2, 3, 28, 29, 30, 31} {
				wantRight(t, api.Class{Kind: kind, Refs: a, Data: b}, false)
				wantRight(t, api.Class{Kind: kind, Refs: b, Data: a}, false)
			}
			for _, b := range wild {
				wantRight(t, api.Class{Kind: kind, Refs: a, Data: b}, false)
			}
		}
	}
	// sums of fields that would be as few as may be, if one of them may be negative or the sum may wrap round
	for _, kind := range kinds {
		for fields := range mostFields + 1 {
			wantRight(t, api.Class{Kind: kind, Refs: math.MaxInt, Data: math.MinInt + 1 + fields}, false)
			wantRight(t, api.Class{Kind: kind, Refs: math.MinInt + 1 + fields, Data: math.MaxInt}, false)
			wantRight(t, api.Class{Kind: kind, Refs: math.MaxInt, Data: fields}, false)
			wantRight(t, api.Class{Kind: kind, Refs: fields, Data: math.MaxInt}, false)
			wantRight(t, api.Class{Kind: kind, Refs: fields + 31, Data: -31}, false)
			wantRight(t, api.Class{Kind: kind, Refs: -31, Data: fields + 31}, false)
		}
	}
}

// right is the chapter's sentence about small numbers of fields, as lists of what may be.
func right(c api.Class) bool {
	plain := c.Kind == 1 && c.Refs >= 0 && c.Refs <= 30 && c.Data >= 0 && c.Data <= 30 && c.Refs+c.Data <= 30
	array := c.Kind == 2 && c.Refs == 0 && c.Data == 0
	reference := c.Kind >= 3 && c.Kind <= 5 && c.Refs >= 1 && c.Data >= 2 && c.Refs+c.Data <= 30 && !c.Final
	return plain || array || reference
}

// P5.1: every class with few fields; there are as many valid ones as can be counted by hand.
func TestRightEvery(t *testing.T) {
	found := [10]int{}
	for kind := -2; kind < 8; kind++ {
		for refs := -3; refs <= 35; refs++ {
			for data := -3; data <= 35; data++ {
				for _, final := range []bool{false, true} {
					c := api.Class{Kind: kind, Refs: refs, Data: data, Final: final}
					wantRight(t, c, right(c))
					if class.Right(c) {
						found[kind+2]++
					}
				}
			}
		}
	}
	// Plain: 31 * 32 / 2, twice; an Array: Final or not; the others: 28 * 29 / 2
	if want := [10]int{0, 0, 0, 992, 2, 406, 406, 406, 0, 0}; found != want {
		t.Errorf("valid classes of the kinds from -2 on: %v, want %v", found, want)
	}
}

// P5.1: from no class to 63, which is the most.
func TestNew(t *testing.T) {
	for _, count := range []int{0, 1, 2, 3, 31, 32, 62, mostClasses} {
		list := many(count)
		wantClasses(t, table(t, list...), list...)
	}
	wantClasses(t, table(t, sample...), sample...)
}

// P5.1: the same class may be there more than once.
func TestNewSame(t *testing.T) {
	list := slices.Repeat([]api.Class{{Kind: api.Weak, Refs: 1, Data: 2}}, mostClasses)
	wantClasses(t, table(t, list...), list...)
}

// P5.1, R2: 64 classes are too many, and so are more.
func TestNewFull(t *testing.T) {
	for _, count := range []int{64, 65, 66, 127, 128, 129, 256, 257, 320, 1000, 1<<16 + 1} {
		wantNewError(t, api.ErrFull, many(count)...)
	}
}

// P5.1, R2: one class that is not valid, first, last and in the middle, among few and among too many.
func TestNewWrong(t *testing.T) {
	for _, wrong := range []api.Class{
		{}, {Kind: api.Plain, Refs: 31}, {Kind: api.Plain, Data: -1}, {Kind: api.Array, Refs: 1}, {Kind: api.Soft, Data: 2},
		{Kind: api.Weak, Refs: 1, Data: 1}, {Kind: api.Phantom, Refs: 1, Data: 2, Final: true}, {Kind: 6},
	} {
		for _, count := range []int{1, 2, 3, 10, 62, 63, 64, 65, 66, 128, 1000} {
			for _, at := range []int{0, 1, count / 2, count - 2, count - 1, 62, 63, 64} {
				if at < 0 || at >= count {
					continue
				}
				list := many(count)
				list[at] = wrong
				wantNewError(t, api.ErrArg, list...)
			}
			wantNewError(t, api.ErrArg, slices.Repeat([]api.Class{wrong}, count)...)
		}
	}
}

// P5.1, R4: without a class, with a nil list and with an empty one.
func TestNewNone(t *testing.T) {
	room := many(5)
	for _, c := range []*class.Table{table(t), table(t, nil...), table(t, []api.Class{}...), table(t, room[:0]...), table(t, room[5:]...)} {
		wantClasses(t, c)
		for n := -2; n <= 65; n++ {
			wantNoClass(t, c, n)
		}
	}
}

// R3: what becomes of the list behind New is nothing to the table.
func TestListChanged(t *testing.T) {
	list := slices.Clone(sample)
	c := table(t, list...)
	clear(list)
	wantClasses(t, c, sample...)
	copy(list, many(len(list)))
	wantClasses(t, c, sample...)
	_ = append(list[:0], api.Class{Kind: api.Soft, Refs: 9, Data: 9})
	wantClasses(t, c, sample...)
}

// R3: New changes nothing in a list, and neither reads nor writes beyond its length.
func TestListKept(t *testing.T) {
	for _, rest := range []api.Class{{Kind: api.Soft, Refs: 9, Data: 9}, {Kind: 77, Refs: -5}} {
		list := append(slices.Clone(sample), slices.Repeat([]api.Class{rest}, 70)...)
		was := slices.Clone(list)
		wantClasses(t, table(t, list[:len(sample)]...), sample...)
		wantClasses(t, table(t, list[:0]...))
		if !slices.Equal(list, was) {
			t.Errorf("the list became %v", list)
		}
	}
	for _, list := range [][]api.Class{many(63), many(64), append(many(70), api.Class{})} {
		was := slices.Clone(list)
		class.New(list...)
		if !slices.Equal(list, was) {
			t.Errorf("the list became %v", list)
		}
	}
}

// R3: two tables of one list are apart, and so is what Of returns.
func TestOfIsACopy(t *testing.T) {
	list := slices.Clone(sample)
	a, b := table(t, list...), table(t, list...)
	for n := range len(sample) {
		x, _ := a.Of(n + 1)
		x.Kind, x.Refs, x.Data, x.Final = 9, -1, -1, !x.Final
	}
	wantClasses(t, a, sample...)
	wantClasses(t, b, sample...)
}

// P5.1, P5.2: numbers at both ends of a table, and those that are no class of it.
func TestNumbers(t *testing.T) {
	outside := slices.Concat([]int{64, 65, 128, 256, 257, 1<<16 + 1, 1<<32 + 2}, huge, negative)
	for _, count := range []int{1, 2, 10, mostClasses} {
		list := many(count)
		c := table(t, list...)
		for _, n := range []int{1, 2, count / 2, count - 1, count} {
			if n < 1 || n > count {
				continue
			}
			wantOf(t, c, n, list[n-1], api.OK)
			wantShape(t, c, n, 0, list[n-1].Refs, list[n-1].Data, api.OK)
			wantHolds(t, c, n, 0, true)
		}
		for _, n := range append(outside, 0, count+1, count+2) {
			wantNoClass(t, c, n)
		}
	}
}

// P5.2: what is no Array has the fields that its class states, and no length.
func TestShapeWithoutLength(t *testing.T) {
	c := table(t, sample...)
	for i, x := range sample {
		if x.Kind == api.Array {
			continue
		}
		wantShape(t, c, i+1, 0, x.Refs, x.Data, api.OK)
		for _, length := range slices.Concat([]int{1, 2, 3, x.Refs + 1, x.Data + 1, 28, 29, 30, 31, 32}, huge, negative) {
			wantShape(t, c, i+1, length, 0, 0, api.ErrArg)
		}
	}
}

// P5.2: an Array has as many references as its length, from 0 to 30.
func TestShapeOfArray(t *testing.T) {
	c := table(t, sample...)
	for _, n := range []int{5, 6} {
		for length := range mostFields + 1 {
			wantShape(t, c, n, length, length, 0, api.OK)
		}
		for _, length := range slices.Concat([]int{31, 32, 33, 64, 4096}, huge) {
			wantShape(t, c, n, length, 0, 0, api.ErrLarge)
		}
		for _, length := range negative {
			wantShape(t, c, n, length, 0, 0, api.ErrArg)
		}
	}
}

// P5.2: every valid class that is no Array, by itself; and its words by hand at the ends.
func TestShapeOfEvery(t *testing.T) {
	for _, kind := range kinds {
		for refs := range 31 {
			for data := range 31 {
				x := api.Class{Kind: kind, Refs: refs, Data: data}
				if !right(x) {
					continue
				}
				c := table(t, x)
				wantShape(t, c, 1, 0, refs, data, api.OK)
			}
		}
	}
	c := table(t, sample...)
	for i, want := range []int{2, 5, 32, 32, 2, 2, 5, 9, 32, 32} {
		if w, e := c.Words(i+1, 0); w != want || e != api.OK {
			t.Errorf("Words(%d, 0) = %d, %d, want %d", i+1, w, e, want)
		}
	}
	if w, e := c.Words(5, 30); w != 32 || e != api.OK {
		t.Errorf("Words(5, 30) = %d, %d", w, e)
	}
}

// P5.2, R1: of several errors the first one that the chapter names.
func TestFirstError(t *testing.T) {
	c := table(t, sample...)
	wantShape(t, c, 0, -1, 0, 0, api.ErrClass)
	wantShape(t, c, 0, 31, 0, 0, api.ErrClass)
	wantShape(t, c, 11, -1, 0, 0, api.ErrClass)
	wantShape(t, c, 11, math.MaxInt, 0, 0, api.ErrClass)
	wantShape(t, c, 1, 31, 0, 0, api.ErrArg)
	wantShape(t, c, 7, math.MaxInt, 0, 0, api.ErrArg)
	wantNewError(t, api.ErrArg, append(many(64), api.Class{})...)
}

// P5.2: the first reference of a reference class doesn't hold, and all other fields do, whether the class has them or not.
func TestHolds(t *testing.T) {
	c := table(t, sample...)
	for i, x := range sample {
		wantHolds(t, c, i+1, 0, x.Kind == api.Plain || x.Kind == api.Array)
		for _, field := range slices.Concat([]int{1, 2, x.Refs + 1, x.Refs + 2, 28, 29, 30, 31, 32, 4096}, huge) {
			wantHolds(t, c, i+1, field, true)
		}
		for _, field := range negative {
			wantHolds(t, c, i+1, field, false)
		}
	}
}

// P5.2: each kind by its number.
func TestHoldsKinds(t *testing.T) {
	c := table(t, api.Class{Kind: 1, Refs: 1, Data: 2}, api.Class{Kind: 2},
		api.Class{Kind: 3, Refs: 1, Data: 2}, api.Class{Kind: 4, Refs: 1, Data: 2}, api.Class{Kind: 5, Refs: 1, Data: 2})
	for i, want := range []bool{true, true, false, false, false} {
		wantHolds(t, c, i+1, 0, want)
		wantHolds(t, c, i+1, 1, true)
		wantHolds(t, c, i+1, -1, false)
	}
}

// P5.3: a nil Table has no classes; a zero Table has none either.
func TestNoTable(t *testing.T) {
	for name, c := range map[string]*class.Table{"nil": nil, "zero": {}} {
		if c.Len() != 0 {
			t.Errorf("%s: Len() = %d", name, c.Len())
		}
		for _, n := range slices.Concat([]int{0, 1, 2, 63, 64}, huge, negative) {
			wantNoClass(t, c, n)
		}
	}
}

// R6: tables know nothing of each other, nor of what was asked or refused before.
func TestNothingKept(t *testing.T) {
	a := table(t, sample...)
	b := table(t, api.Class{Kind: api.Array})
	for range 3 {
		wantNewError(t, api.ErrArg, api.Class{})
		wantNewError(t, api.ErrFull, many(64)...)
		wantShape(t, a, 1, 1, 0, 0, api.ErrArg)
		wantShape(t, b, 1, 1, 1, 0, api.OK)
		wantNoClass(t, b, 2)
		wantHolds(t, a, 7, 0, false)
		wantHolds(t, b, 1, 0, true)
		wantClasses(t, a, sample...)
		wantClasses(t, b, api.Class{Kind: api.Array})
	}
}
