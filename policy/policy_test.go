package policy_test

import (
	"math"
	"math/bits"
	"slices"
	"testing"

	"gleaning/api"
	"gleaning/policy"
)

// most is the greatest tick, written out.
const most = 1 << 40

// edges are the numbers around which clamping, a sum, a difference or a product may go wrong, rising.
var edges = []int{
	math.MinInt, math.MinInt + 1, math.MinInt + most, math.MinInt / 2, -2 * most, -most - 1, -most, -most + 1, -1 << 32, -7, -2, -1,
	0, 1, 2, 3, 7, 1<<20 - 1, 1 << 20, 1<<20 + 1, 1 << 31, 1 << 32, 1<<32 + 1,
	most / 3, most/3 + 1, most/2 - 1, most / 2, most/2 + 1, most - 2, most - 1,
	most, most + 1, most + 2, most + 1<<32, 2*most - 1, 2 * most, 1 << 62, 1<<62 + 1, math.MaxInt - most, math.MaxInt - 1, math.MaxInt,
}

// few are some of the edges: calls with four arguments are made with all choices of them.
var few = []int{
	math.MinInt, -most, -1, 0, 1, 2, 7, 1 << 20, 1<<20 + 1, 1 << 32, most / 2, most/2 + 1, most - 1, most, most + 1, 1 << 62, math.MaxInt,
}

// some are the numbers from one to another.
func some(from, to int) []int {
	var list []int
	for n := from; n <= to; n++ {
		list = append(list, n)
	}
	return list
}

// clamped is the chapter's tick of a number, by comparisons.
func clamped(n int) int {
	switch {
	case n < 0:
		return 0
	case n > most:
		return most
	}
	return n
}

func sum(a, b int) int { return clamped(clamped(a) + clamped(b)) }

// product works with 128 bits.
func product(a, b int) int {
	high, low := bits.Mul64(uint64(clamped(a)), uint64(clamped(b)))
	if high > 0 || low > most {
		return most
	}
	return int(low)
}

func difference(now, last int) int {
	if clamped(now) < clamped(last) {
		return 0
	}
	return clamped(now) - clamped(last)
}

func kept(now, last, rate, free int) bool {
	return difference(now, last) <= product(rate, free)
}

// want holds a call of two numbers against what it must tell.
func want(t *testing.T, what string, f func(a, b int) int, a, b, want int) {
	t.Helper()
	if n := f(a, b); n != want {
		t.Errorf("%s(%d, %d) = %d, want %d", what, a, b, n, want)
	}
}

func wantKeeps(t *testing.T, now, last, rate, free int, want bool) {
	t.Helper()
	if is := policy.Keeps(now, last, rate, free); is != want {
		t.Errorf("Keeps(%d, %d, %d, %d) = %t, want %t", now, last, rate, free, is, want)
	}
}

// all holds the calls of two numbers against the chapter.
func all(t *testing.T, a, b int) {
	t.Helper()
	want(t, "Add", policy.Add, a, b, sum(a, b))
	want(t, "Mul", policy.Mul, a, b, product(a, b))
	want(t, "Since", policy.Since, a, b, difference(a, b))
	want(t, "Most", policy.Most, a, b, product(a, b))
}

// fours calls a function with all choices of four numbers of a list.
func fours(list []int, f func(now, last, rate, free int)) {
	for _, now := range list {
		for _, last := range list {
			for _, rate := range list {
				for _, free := range list {
					f(now, last, rate, free)
				}
			}
		}
	}
}

// The chapter's example.
func TestExample(t *testing.T) {
	wantKeeps(t, 10, 3, 1, 7, true)
	wantKeeps(t, 11, 3, 1, 7, false)
}

// The document's greatest tick, to which the other tests hold the package.
func TestMaxTick(t *testing.T) {
	if api.MaxTick != most {
		t.Errorf("MaxTick is %d", api.MaxTick)
	}
}

// P11.1: sums, up to the greatest tick and beyond it.
func TestAdd(t *testing.T) {
	for _, x := range []struct{ a, b, want int }{
		{0, 0, 0}, {0, 1, 1}, {3, 4, 7}, {1 << 20, 1, 1<<20 + 1}, {1 << 32, 1 << 32, 1 << 33}, {most / 2, most/2 - 1, most - 1},
		{most / 2, most / 2, most}, {most / 2, most/2 + 1, most}, {most - 1, 0, most - 1}, {most - 1, 1, most}, {most - 1, 2, most},
		{most - 2, 1, most - 1}, {most, 0, most}, {most, 1, most}, {most, most, most}, {most - 1, most - 1, most},
		{most + 1, 0, most}, {most + 1, -1, most}, {most + 1, most + 1, most}, {2 * most, -most, most},
		{-1, 0, 0}, {-1, 1, 1}, {-3, 4, 4}, {-1, -1, 0}, {-5, most, most}, {-1, most + 1, most}, {-most, most - 1, most - 1},
		{math.MaxInt, 0, most}, {math.MaxInt, 1, most}, {math.MaxInt, math.MaxInt, most}, {math.MaxInt, -1, most},
		{math.MaxInt, most, most}, {1 << 62, 1 << 62, most}, {1<<62 + 7, 1 << 62, most},
		{math.MinInt, 0, 0}, {math.MinInt, 5, 5}, {math.MinInt, -1, 0}, {math.MinInt, math.MinInt, 0},
		{math.MinInt, math.MaxInt, most}, {math.MinInt, most, most}, {math.MinInt / 2, math.MinInt / 2, 0},
	} {
		want(t, "Add", policy.Add, x.a, x.b, x.want)
		want(t, "Add", policy.Add, x.b, x.a, x.want)
	}
}

// products are what Mul and Most must tell, whichever number stands first.
var products = []struct{ a, b, want int }{
	{0, 0, 0}, {0, 1, 0}, {1, 1, 1}, {3, 4, 12}, {7, 11, 77}, {1, most - 1, most - 1}, {1, most, most}, {1, most + 1, most},
	{0, most, 0}, {0, most + 1, 0}, {0, 1 << 62, 0}, {0, math.MaxInt, 0},
	{1 << 20, 1<<20 - 1, 1<<40 - 1<<20}, {1 << 20, 1 << 20, most}, {1 << 20, 1<<20 + 1, most}, {1<<20 - 1, 1<<20 + 1, most - 1}, {1<<20 + 1, 1<<20 + 1, most},
	{2, most/2 - 1, most - 2}, {2, most / 2, most}, {2, most/2 + 1, most}, {3, most / 3, most - 1}, {3, most/3 + 1, most}, {3, 1 << 39, most},
	{2, most - 1, most}, {2, most, most}, {most - 1, most - 1, most}, {most - 1, most, most}, {most, most, most}, {most, most + 1, most},
	// products that wrap round: to 0, to a small number, to one below 0
	{1 << 32, 1 << 32, most}, {1 << 32, 1<<32 + 1, most}, {1<<32 + 1, 1<<32 - 1, most}, {1 << 30, 1 << 34, most}, {1 << 31, 1 << 32, most},
	{1 << 39, 1 << 25, most}, {1<<39 + 1, 1 << 25, most}, {1 << 40, 1 << 24, most}, {3037000500, 3037000500, most}, {1 << 30, 1 << 30, most},
	{-1, -1, 0}, {-1, 0, 0}, {-1, 1, 0}, {-3, 4, 0}, {-1, most, 0}, {-1, most + 1, 0}, {-most, -most, 0}, {-most - 1, 2, 0},
	{math.MaxInt, 1, most}, {math.MaxInt, 2, most}, {math.MaxInt, math.MaxInt, most}, {math.MaxInt, most, most}, {math.MaxInt, -1, 0},
	{1 << 62, 4, most}, {1<<62 + 1, 4, most}, {1 << 62, 1 << 62, most},
	{math.MinInt, 0, 0}, {math.MinInt, 1, 0}, {math.MinInt, -1, 0}, {math.MinInt, 2, 0}, {math.MinInt, math.MinInt, 0}, {math.MinInt, math.MaxInt, 0}, {math.MinInt, most, 0},
}

// P11.1: products, up to the greatest tick and beyond it; Most is Mul of both.
func TestMulAndMost(t *testing.T) {
	for _, x := range products {
		for _, f := range []struct {
			what string
			call func(a, b int) int
		}{{"Mul", policy.Mul}, {"Most", policy.Most}} {
			want(t, f.what, f.call, x.a, x.b, x.want)
			want(t, f.what, f.call, x.b, x.a, x.want)
		}
	}
}

// P11.1: products just below the greatest tick, at it and just above it, for factors of all sizes.
func TestMulAtMost(t *testing.T) {
	factors := some(1, 3000)
	for size := range 40 {
		factors = append(factors, 1<<size, 1<<size+1, most-1<<size, most>>size)
	}
	for _, a := range factors {
		for by := -2; by <= 2; by++ {
			all(t, a, most/a+by)
			all(t, most/a+by, a)
		}
	}
}

// P11.1: now less last, and 0 where last is later.
func TestSince(t *testing.T) {
	for _, x := range []struct{ now, last, want int }{
		{0, 0, 0}, {1, 0, 1}, {0, 1, 0}, {9, 4, 5}, {4, 9, 0}, {5, 5, 0}, {10, 3, 7}, {3, 4, 0}, {5, 4, 1},
		{most, 0, most}, {most, 1, most - 1}, {most, most - 1, 1}, {most, most, 0}, {most - 1, most, 0}, {most - 1, 0, most - 1}, {0, most, 0}, {1, most, 0},
		{most + 1, 0, most}, {most + 1, 1, most - 1}, {most + 1, most, 0}, {most + 5, most + 1, 0}, {most, most + 1, 0}, {most - 1, most + 1, 0}, {2 * most, most - 3, 3}, {0, most + 1, 0},
		{-1, 0, 0}, {0, -1, 0}, {-1, -5, 0}, {-5, -1, 0}, {5, -1, 5}, {5, -5, 5}, {-1, 5, 0}, {most, -1, most}, {most - 1, -1, most - 1}, {-1, most, 0},
		{math.MaxInt, 0, most}, {math.MaxInt, 7, most - 7}, {math.MaxInt, math.MaxInt, 0}, {math.MaxInt, most, 0}, {math.MaxInt, math.MaxInt - 1, 0}, {math.MaxInt, -1, most}, {5, math.MaxInt, 0}, {-2, math.MaxInt, 0},
		{math.MinInt, 0, 0}, {math.MinInt, 1, 0}, {math.MinInt, math.MinInt, 0}, {math.MinInt + 1, math.MinInt, 0}, {0, math.MinInt, 0}, {5, math.MinInt, 5}, {-1, math.MinInt, 0},
		{math.MinInt, math.MaxInt, 0}, {math.MaxInt, math.MinInt, most},
	} {
		want(t, "Since", policy.Since, x.now, x.last, x.want)
	}
}

// P11.1: what is kept, what isn't, and numbers that are no ticks.
func TestKeeps(t *testing.T) {
	for _, x := range []struct {
		now, last, rate, free int
		want                  bool
	}{
		{5, 5, 0, 0, true}, {6, 5, 0, 0, false}, {6, 5, 0, 9, false}, {6, 5, 9, 0, false}, {4, 5, 0, 0, true}, {0, 0, 0, 0, true}, {1, 0, 0, 0, false},
		{15, 3, 3, 4, true}, {16, 3, 3, 4, false}, {14, 3, 3, 4, true}, {15, 3, 4, 3, true}, {16, 3, 4, 3, false}, {3, 10, 1, 1, true},
		{most, 0, 1, most, true}, {most, 0, 1, most - 1, false}, {most - 1, 0, 1, most - 1, true}, {most, 1, 1, most - 1, true}, {most, 1, 1, most - 2, false},
		{most, 0, 1 << 20, 1 << 20, true}, {most, 0, 1<<20 - 1, 1<<20 + 1, false}, {most - 1, 0, 1<<20 - 1, 1<<20 + 1, true}, {most, 0, 1 << 32, 1 << 32, true}, {most, 0, most, most, true},
		{most, most, 0, 0, true}, {most, most - 1, 0, 0, false}, {most + 1, most, 0, 0, true}, {most + 2, most + 1, 0, 0, true}, {most + 1, most - 1, 0, 0, false}, {most + 1, most - 1, 1, 1, true}, {most + 9, 0, 1, most, true}, {most + 9, 0, 1, most - 1, false},
		{-1, -5, 0, 0, true}, {0, -1, 0, 0, true}, {1, -1, 0, 0, false}, {1, -5, 1, 1, true}, {2, -5, 1, 1, false}, {2, -5, 1, 7, true},
		{6, 5, -1, 9, false}, {6, 5, 9, -1, false}, {6, 5, -1, -1, false}, {5, 5, -1, -1, true}, {5, 5, -1, 9, true},
		{most, 0, 1, most + 1, true}, {most, 0, most + 1, 1, true}, {most, 0, 0, most + 1, false}, {most, 0, most + 1, 0, false},
		{math.MaxInt, math.MinInt, math.MaxInt, math.MaxInt, true}, {math.MaxInt, math.MinInt, math.MaxInt, 1, true}, {math.MaxInt, math.MinInt, 1, math.MaxInt, true}, {math.MaxInt, math.MinInt, math.MaxInt, 0, false},
		{math.MaxInt, math.MinInt, math.MinInt, math.MaxInt, false}, {math.MaxInt, math.MinInt, math.MaxInt, math.MinInt, false}, {math.MaxInt, math.MinInt, math.MinInt, math.MinInt, false}, {math.MaxInt, math.MinInt, 1, most - 1, false},
		{math.MaxInt, math.MaxInt, 0, 0, true}, {math.MaxInt, most, 0, 0, true}, {math.MinInt, math.MaxInt, math.MinInt, math.MinInt, true}, {math.MinInt, math.MinInt, 0, 0, true}, {0, math.MinInt, 0, 0, true}, {1, math.MinInt, 0, 0, false},
	} {
		wantKeeps(t, x.now, x.last, x.rate, x.free, x.want)
	}
}

// P11.1: a reference is kept one tick before its last one and at it, and no longer one tick after it.
func TestKeepsAtEdge(t *testing.T) {
	for _, last := range append(some(0, 20), 1<<20, 1<<32, most/2) {
		for _, rate := range append(some(0, 20), 1<<10, 1<<19) {
			for _, free := range append(some(0, 20), 141, 4094, 4095, 4096, 1<<19) {
				end := last + rate*free
				wantKeeps(t, end-1, last, rate, free, true)
				wantKeeps(t, end, last, rate, free, true)
				wantKeeps(t, end+1, last, rate, free, false)
			}
		}
	}
}

// P11.1: all calls at all choices of the edges, and of all numbers around 0.
func TestPairs(t *testing.T) {
	for _, list := range [][]int{edges, some(-5, 70), some(most-20, most+20)} {
		for _, a := range list {
			for _, b := range list {
				all(t, a, b)
			}
		}
	}
	for _, list := range [][]int{few, some(-3, 12)} {
		fours(list, func(now, last, rate, free int) {
			wantKeeps(t, now, last, rate, free, kept(now, last, rate, free))
		})
	}
}

// P11.1: Most is Mul, and Keeps is what Since and Most make of it, by the package's own calls.
func TestTogether(t *testing.T) {
	for _, a := range edges {
		for _, b := range edges {
			want(t, "Most", policy.Most, a, b, policy.Mul(a, b))
		}
	}
	fours(few, func(now, last, rate, free int) {
		wantKeeps(t, now, last, rate, free, policy.Since(now, last) <= policy.Most(rate, free))
	})
}

// P11.1: each argument stands for its clamped one, by the package's own calls.
func TestClamped(t *testing.T) {
	for _, a := range edges {
		for _, b := range edges {
			want(t, "Add", policy.Add, a, b, policy.Add(clamped(a), clamped(b)))
			want(t, "Mul", policy.Mul, a, b, policy.Mul(clamped(a), clamped(b)))
			want(t, "Since", policy.Since, a, b, policy.Since(clamped(a), clamped(b)))
			want(t, "Most", policy.Most, a, b, policy.Most(clamped(a), clamped(b)))
		}
	}
	fours(few, func(now, last, rate, free int) {
		wantKeeps(t, now, last, rate, free, policy.Keeps(clamped(now), clamped(last), clamped(rate), clamped(free)))
	})
}

// P11.1: what is told is a tick, whatever is asked.
func TestTicks(t *testing.T) {
	for _, a := range edges {
		for _, b := range edges {
			for i, n := range []int{policy.Add(a, b), policy.Mul(a, b), policy.Since(a, b), policy.Most(a, b)} {
				if n < 0 || n > most {
					t.Errorf("call %d of %d, %d: %d is no tick", i, a, b, n)
				}
			}
		}
	}
}

// P11.2: Add and Mul with their arguments turned about.
func TestCommutative(t *testing.T) {
	for _, list := range [][]int{edges, some(-5, 70), some(most-20, most+20)} {
		for _, a := range list {
			for _, b := range list {
				want(t, "Add", policy.Add, a, b, policy.Add(b, a))
				want(t, "Mul", policy.Mul, a, b, policy.Mul(b, a))
			}
		}
	}
}

// wantRising holds a call against itself where either of its arguments grows by a step of a rising list.
func wantRising(t *testing.T, what string, f func(a, b int) int, list []int) {
	t.Helper()
	for i, more := range list[1:] {
		for _, b := range list {
			if f(list[i], b) > f(more, b) || f(b, list[i]) > f(b, more) {
				t.Errorf("%s of %d and %d falls when %[3]d becomes %d", what, b, list[i], more)
			}
		}
	}
}

// P11.2: Add and Mul don't fall when an argument grows.
func TestMonotonic(t *testing.T) {
	if !slices.IsSorted(edges) || !slices.IsSorted(few) {
		t.Fatal("the edges do not rise")
	}
	for _, list := range [][]int{edges, some(-5, 70), some(1<<20-20, 1<<20+20), some(most/2-20, most/2+20), some(most-20, most+20)} {
		wantRising(t, "Add", policy.Add, list)
		wantRising(t, "Mul", policy.Mul, list)
	}
}

// P11.2: what is kept with some free words is kept with more, and was kept earlier.
func TestKeptStill(t *testing.T) {
	for _, list := range [][]int{few, some(-2, 12)} {
		fours(list, func(now, last, rate, free int) {
			if !policy.Keeps(now, last, rate, free) {
				return
			}
			for _, n := range list {
				if n > free {
					wantKeeps(t, now, last, rate, n, true)
				}
				if n < now {
					wantKeeps(t, n, last, rate, free, true)
				}
			}
		})
	}
}

// P11.2: from the tick at which a reference is no longer kept on it never is; it is kept from some number of free words on.
func TestKeptOnce(t *testing.T) {
	for rate := range 6 {
		for last := range 6 {
			for other := range 20 {
				for n := range 60 {
					wantKeeps(t, n, last, rate, other, n <= last+rate*other)
					wantKeeps(t, last+other, last, rate, n, n*rate >= other)
				}
			}
		}
	}
}

// R6: the same call tells the same, whatever was asked between.
func TestNothingKept(t *testing.T) {
	for range 3 {
		wantKeeps(t, 10, 3, 1, 7, true)
		all(t, math.MaxInt, math.MaxInt)
		wantKeeps(t, 11, 3, 1, 7, false)
		all(t, math.MinInt, math.MinInt)
		all(t, 9, 4)
	}
}
