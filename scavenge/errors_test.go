package scavenge_test

import (
	"fmt"
	"math"
	"slices"
	"testing"

	"gleaning/api"
	"gleaning/card"
	"gleaning/mem"
	"gleaning/scavenge"
	"gleaning/space"
)

// far are numbers far from each address; many become one of these if a sum or a difference wraps round.
var far = []int{
	math.MinInt, math.MinInt + 1, math.MinInt + 2, math.MinInt / 2, -1 << 32, 1 - 1<<32, -mostWords, -2, -1,
	mostWords, mostWords + 1, 1 << 32, 1<<32 + 1, 1 << 62, math.MaxInt / 2, math.MaxInt - 1, math.MaxInt,
}

// theSpaces are a Young's spaces, by their names.
func theSpaces(y *scavenge.Young) map[string]*space.Space {
	return map[string]*space.Space{"Old": &y.Old, "Eden": &y.Eden, "From": &y.From, "To": &y.To}
}

var spaceNames = []string{"Old", "Eden", "From", "To"}

// P15.1: a space that is not valid, or that begins at 0, or ends beyond the arena.
func TestNoSpaces(t *testing.T) {
	for _, name := range spaceNames {
		for how, change := range map[string]func(x *space.Space){
			"begins at 0":                func(x *space.Space) { x.From = 0 },
			"is at 0, without words":     func(x *space.Space) { *x = space.Space{} },
			"begins below 0":             func(x *space.Space) { x.From = -1 },
			"begins above Top":           func(x *space.Space) { x.From = x.Top + 1 },
			"has Top above End":          func(x *space.Space) { x.Top = x.End + 1 },
			"has End below Top":          func(x *space.Space) { x.Top, x.End = x.From+1, x.From },
			"ends beyond the arena":      func(x *space.Space) { x.End = 167 },
			"lies beyond the arena":      func(x *space.Space) { *x = space.Space{From: 167, Top: 167, End: 167} },
			"ends above all words":       func(x *space.Space) { x.End = mostWords + 1 },
			"is turned round":            func(x *space.Space) { x.From, x.End = x.End, x.From },
			"is all the numbers":         func(x *space.Space) { x.From, x.End = math.MinInt, math.MaxInt },
			"is the least of numbers":    func(x *space.Space) { *x = space.Space{From: math.MinInt, Top: math.MinInt, End: math.MinInt} },
			"is the greatest of numbers": func(x *space.Space) { *x = space.Space{From: math.MaxInt, Top: math.MaxInt, End: math.MaxInt} },
		} {
			w, _, reached, _ := full(t)
			if w.a.Len() != 164 {
				t.Fatalf("the arena has %d words", w.a.Len())
			}
			change(theSpaces(&w.y)[name])
			w.fails(name+" "+how, api.ErrArg, reached)
		}
		for _, n := range far {
			for i := range 3 {
				w, _, reached, _ := full(t)
				x := theSpaces(&w.y)[name]
				*[]*int{&x.From, &x.Top, &x.End}[i] = n
				w.fails(fmt.Sprintf("%s with %d", name, n), api.ErrArg, reached)
			}
		}
	}
}

// P15.1: a space may end where the arena ends, and not a word beyond.
func TestEndOfArena(t *testing.T) {
	for _, name := range spaceNames {
		for _, words := range []int{20, mostWords} {
			y := scavenge.Young{
				Old: space.Space{From: 1, Top: 1, End: 2}, Eden: space.Space{From: 2, Top: 2, End: 3},
				From: space.Space{From: 3, Top: 3, End: 4}, To: space.Space{From: 4, Top: 4, End: 5},
			}
			*theSpaces(&y)[name] = space.Space{From: words - 1, Top: words - 1, End: words}
			worldOf(t, words, y, 1, 2).good(name + " ends with the arena")
			worldOf(t, words-1, y, 1, 2).fails(name+" ends beyond the arena", api.ErrArg)
			*theSpaces(&y)[name] = space.Space{From: words, Top: words, End: words}
			if name == "Old" || name == "Eden" {
				worldOf(t, words, y, 1, 2).good(name + " is without words where the arena ends")
				worldOf(t, words-1, y, 1, 2).fails(name+" is without words beyond the arena", api.ErrArg)
			}
		}
	}
}

func TestNoArena(t *testing.T) {
	w, _, _, _ := full(t)
	for _, y := range []scavenge.Young{{}, w.y, {
		Old: space.Space{From: 1, Top: 1, End: 1}, Eden: space.Space{From: 1, Top: 1, End: 1},
		From: space.Space{From: 1, Top: 1, End: 1}, To: space.Space{From: 1, Top: 1, End: 1},
	}} {
		for _, a := range []*mem.Arena{nil, {}, mem.New(0), mem.New(-3)} {
			for _, roots := range [][]int{nil, {}, {0}, {5}} {
				got, now, e := scavenge.Run(a, w.c, y, roots, w.dirty)
				if e != api.ErrArg || len(got) != 0 || now != (scavenge.Young{}) {
					t.Errorf("Run without words, %+v, %v: %v, %+v, %d", y, roots, got, now, e)
				}
			}
		}
	}
	if got, now, e := scavenge.Run(nil, nil, scavenge.Young{}, nil, nil); e != api.ErrArg || got != nil || now != (scavenge.Young{}) {
		t.Errorf("Run of nothing: %v, %+v, %d", got, now, e)
	}
}

// P15.1: without words but 0 there is just one place that is no space's: 1, where an arena of one word ends.
func TestLeastArena(t *testing.T) {
	one := space.Space{From: 1, Top: 1, End: 1}
	y := scavenge.Young{Old: one, Eden: one, From: one, To: one}
	w := worldOf(t, 1, y, 0, 1)
	w.dirty.Touch(0)
	if got := w.good("an arena of one word", 0, 0); !slices.Equal(got, []int{0, 0}) {
		t.Errorf("the roots became %v", got)
	}
	w.fails("a root in an arena of one word", api.ErrForm, 1)
}

// placed are four spaces of 8 words each, far from one another; Old has twice as many, to have room.
func placed() scavenge.Young {
	at := func(from, words int) space.Space { return space.Space{From: from, Top: from, End: from + words} }
	return scavenge.Young{Old: at(40, 16), Eden: at(90, 8), From: at(140, 8), To: at(190, 8), Threshold: 1}
}

// placedWorld has cards for all addresses.
func placedWorld(t *testing.T, y scavenge.Young) *world {
	t.Helper()
	return worldOf(t, 250, y, 0, 250)
}

// P15.1: two spaces that have one address in common, several, or all.
func TestSpacesMeet(t *testing.T) {
	for _, name := range spaceNames {
		for _, other := range spaceNames {
			if name == other {
				continue
			}
			y := placed()
			x := *theSpaces(&y)[other]
			size := theSpaces(&y)[name].End - theSpaces(&y)[name].From
			for from := x.From - size - 2; from <= x.End+2; from++ {
				y := placed()
				*theSpaces(&y)[name] = space.Space{From: from, Top: from, End: from + size}
				want := api.ErrArg
				if from+size <= x.From || from >= x.End {
					want = api.OK
				}
				what := fmt.Sprintf("%s at %d, %s at %d to %d", name, from, other, x.From, x.End)
				if _, e := placedWorld(t, y).run(what); e != want {
					t.Errorf("%s: error %d, want %d", what, e, want)
				}
			}
		}
	}
}

// P15.1: addresses that aren't allocated count, too.
func TestSpacesMeetWhereNothingIs(t *testing.T) {
	w := newWorld(t, 20, 10, 5, 1)
	w.put(&w.y.Old, pair, 0)
	w.y.Eden = space.Space{From: 20, Top: 20, End: 31}
	w.fails("the last word of Old is Eden's, too", api.ErrArg)
	w.y.Eden.From, w.y.Eden.Top = 21, 21
	w.good("Eden begins behind it")
	w.y.Old, w.y.Eden = space.Space{From: 5, Top: 5, End: 15}, space.Space{From: 1, Top: 1, End: 20}
	w.fails("Old is inside of Eden", api.ErrArg)
	w.y.Old, w.y.Eden = w.y.Eden, w.y.Old
	w.fails("Eden is inside of Old", api.ErrArg)
}

// P15.1: a space without words has no address, wherever it is.
func TestSpacesWithoutWords(t *testing.T) {
	none := func(at int) space.Space { return space.Space{From: at, Top: at, End: at} }
	for from := 38; from <= 60; from++ {
		y := placed()
		y.Eden = none(from)
		placedWorld(t, y).good(fmt.Sprintf("Eden without words at %d", from))
		y = placed()
		y.Old, y.Eden = none(from), y.Old
		placedWorld(t, y).good(fmt.Sprintf("Old without words at %d", from))
		y = placed()
		y.From, y.To = none(from), none(from)
		placedWorld(t, y).good(fmt.Sprintf("halves without words at %d", from))
		y.From, y.To, y.Eden, y.Old = none(from), none(from), none(from), none(from)
		placedWorld(t, y).good(fmt.Sprintf("no words at %d", from))
	}
}

// P15.1: To is empty, and as large as From.
func TestTo(t *testing.T) {
	for _, more := range []int{-8, -7, -1, 1, 2, 8} {
		for name, where := range map[string]func(y *scavenge.Young) *space.Space{
			"From": func(y *scavenge.Young) *space.Space { return &y.From },
			"To":   func(y *scavenge.Young) *space.Space { return &y.To },
		} {
			y := placed()
			where(&y).End += more
			placedWorld(t, y).fails(fmt.Sprintf("%s is larger by %d", name, more), api.ErrArg)
		}
	}
	for words := 1; words <= 8; words++ {
		y := placed()
		w := placedWorld(t, y)
		w.gap(&w.y.To, words)
		w.fails(fmt.Sprintf("To has %d words", words), api.ErrArg)
		w.y.To = w.y.To.Empty()
		w.gap(&w.y.From, words)
		w.good(fmt.Sprintf("From has %d words", words))
	}
	y := placed()
	y.From.End, y.To.End, y.Old.End = y.From.From+3, y.To.From+3, y.Eden.From+1
	placedWorld(t, y).fails("Old meets Eden", api.ErrArg)
	y.Old.End--
	placedWorld(t, y).good("Old ends where Eden begins")
	y.Old.End = y.Old.From
	placedWorld(t, y).good("other sizes")
}

func TestThreshold(t *testing.T) {
	for _, n := range append([]int{-1, -2, -8, 8, 9, 15, 16, 64, 256, 263}, far...) {
		w, _, reached, _ := full(t)
		w.y.Threshold = n
		w.fails(fmt.Sprintf("the Threshold %d", n), api.ErrArg, reached)
	}
	for n := range mostAge + 1 {
		w, _, reached, _ := full(t)
		w.y.Threshold = n
		w.good(fmt.Sprintf("the Threshold %d", n), reached)
	}
}

// P15.1: a word that is neither an object's nor a gap's, in each space, at each place where one of these begins.
func TestNoForm(t *testing.T) {
	broken := map[string]func(w *world, at int){
		"no header":                   func(w *world, at int) { w.a.Store(at, -1) },
		"the least number":            func(w *world, at int) { w.a.Store(at, math.MinInt) },
		"the greatest number":         func(w *world, at int) { w.a.Store(at, math.MaxInt) },
		"Final and Done":              func(w *world, at int) { w.a.Store(at, bare+2048+4096) },
		"an age above MaxAge":         func(w *world, at int) { w.a.Store(at, bare+64*8) },
		"Forward above MaxWords":      func(w *world, at int) { w.a.Store(at, bare+8192*mostWords) },
		"a class that isn't there":    func(w *world, at int) { w.a.Store(at, 11); w.a.Store(at+1, 0) },
		"the last class there may be": func(w *world, at int) { w.a.Store(at, 63); w.a.Store(at+1, 0) },
		"a length below 0":            func(w *world, at int) { w.a.Store(at, array); w.a.Store(at+1, -1) },
		"a length above MaxObject":    func(w *world, at int) { w.a.Store(at, array); w.a.Store(at+1, 31) },
		"a length of what is no Array": func(w *world, at int) {
			w.a.Store(at, pair)
			w.a.Store(at+1, 1)
		},
		"a gap of one word, without Mark": func(w *world, at int) { w.a.Store(at, 0); w.a.Store(at+1, 1) },
		"a gap of no words":               func(w *world, at int) { w.a.Store(at, 0); w.a.Store(at+1, 0) },
		"a gap of fewer words":            func(w *world, at int) { w.a.Store(at, 0); w.a.Store(at+1, math.MinInt) },
		"a gap of all numbers":            func(w *world, at int) { w.a.Store(at, 0); w.a.Store(at+1, math.MaxInt) },
		"a gap that ends above Top":       func(w *world, at int) { w.a.Store(at, 0); w.a.Store(at+1, 60) },
	}
	for _, name := range spaceNames[:3] {
		build := func() (*world, []int) {
			w := newWorld(t, 200, 50, 50, 1)
			x := theSpaces(&w.y)[name]
			return w, []int{w.put(x, bare, 0), w.put(x, pair, 0), w.put(x, bare, 0), w.put(x, bare, 0)}
		}
		w, _ := build()
		w.good("each is right in " + name)
		for how, change := range broken {
			for i := range 4 {
				w, at := build()
				change(w, at[i])
				w.fails(fmt.Sprintf("%s in %s at %d", how, name, at[i]), api.ErrForm)
			}
		}
	}
}

// P15.1: an object or a gap that ends above Top, by each number of words.
func TestAboveTop(t *testing.T) {
	for _, name := range spaceNames[:3] {
		for _, n := range []int{pair, weak, mix, 0} {
			build := func() (*world, *space.Space) {
				w := newWorld(t, 60, 20, 20, 1)
				x := theSpaces(&w.y)[name]
				w.put(x, bare, 0)
				if n == 0 {
					w.gap(x, 5)
				} else {
					w.put(x, n, 0)
				}
				return w, x
			}
			_, x := build()
			from, last := x.From, x.Top
			for top := from; top <= last; top++ {
				w, x := build()
				x.Top = top
				want := api.ErrForm
				if top == from || top == from+2 || top == last {
					want = api.OK
				}
				what := fmt.Sprintf("%s up to %d, class %d", name, top, n)
				if _, e := w.run(what); e != want {
					t.Errorf("%s: error %d, want %d", what, e, want)
				}
			}
		}
	}
}

// P15.1: what is above a Top is not looked at, nor what To holds.
func TestWhatIsNotAllocated(t *testing.T) {
	w, _, reached, _ := full(t)
	for _, x := range (state{y: w.y}).spaces() {
		for at := x.Top; at < x.End; at++ {
			w.a.Store(at, []int{-1, math.MinInt, math.MaxInt, bare, 0}[at%5])
		}
	}
	w.good("garbage above the Tops", reached)
}

func TestNilTable(t *testing.T) {
	for _, name := range spaceNames[:3] {
		w := newWorld(t, 60, 20, 20, 1)
		x := theSpaces(&w.y)[name]
		w.gap(x, 1)
		w.gap(x, 5)
		w.c, w.classes = nil, nil
		w.good("a nil table, and gaps in "+name, 0)
		w, _, _, _ = full(t)
		y := w.y
		w.c, w.classes = nil, nil
		w.y.Old, w.y.Eden, w.y.From = y.Old.Empty(), y.Eden.Empty(), y.From.Empty()
		*theSpaces(&w.y)[name] = *theSpaces(&y)[name]
		w.fails("a nil table, and objects in "+name, api.ErrForm)
	}
	w := newWorld(t, 60, 20, 20, 1)
	w.c, w.classes = nil, nil
	if got := w.good("a nil table, and nothing", 0, 0); !slices.Equal(got, []int{0, 0}) {
		t.Errorf("the roots became %v", got)
	}
	w.fails("a nil table, and a root", api.ErrForm, 1)
}

// strays are addresses where nothing is to which a reference may lead, in the full world.
func strays(w *world, old, reached, lost int) map[string]int {
	y := w.y
	list := map[string]int{
		"-1": -1, "the least number": math.MinInt, "the greatest number": math.MaxInt,
		"inside of an old object": old + 1, "the last word of an old object": old + 3,
		"inside of a young object": reached + 1, "the last word of a young object": reached + 8,
		"inside of one that is lost": lost + 2,
		"a gap in Old":               y.Old.From + 4, "a gap in Eden": y.Eden.From, "inside of a gap in Eden": y.Eden.From + 1, "a gap in From": y.From.From + 7,
		"the Top of Old": y.Old.Top, "the Top of Eden": y.Eden.Top, "the Top of From": y.From.Top,
		"To": y.To.From, "inside of To": y.To.From + 4, "the last word of To": y.To.End - 1,
		"the last word of Old": y.Old.End - 1, "the last word of Eden": y.Eden.End - 1,
		"behind the spaces": y.To.End, "the last word of the arena": w.a.Len() - 1,
		"the end of the arena": w.a.Len(),
	}
	for _, n := range far {
		list[fmt.Sprint(n)] = n
	}
	return list
}

// layStrays lays what looks like objects where none is: in To, above the Tops, in gaps, in numbers, behind the spaces.
func layStrays(w *world, reached int) {
	for _, at := range []int{
		w.y.To.From, w.y.To.From + 4, w.y.To.End - 2, w.y.Old.Top, w.y.Eden.Top, w.y.From.Top,
		w.y.Eden.From + 1, w.y.Old.End - 2, w.y.Eden.End - 2, w.y.To.End,
	} {
		w.s.Lay(at, bare, 0)
	}
	w.s.SetNum(reached, 0, bare)
	w.s.SetNum(reached, 1, 0)
}

// P15.1: a root that is neither 0 nor an object's address.
func TestStrayRoots(t *testing.T) {
	w, old, reached, lost := full(t)
	layStrays(w, reached)
	for what, at := range strays(w, old, reached, lost) {
		for _, roots := range [][]int{{at}, {reached, at}, {at, 0, old}, {0, 0, 0, at, at}} {
			w.fails("a root: "+what, api.ErrForm, roots...)
		}
	}
	w.fails("numbers that read like an object", api.ErrForm, reached+5)
	w.good("roots that are right", old, reached, lost)
}

// P15.1: a reference that is neither 0 nor an object's address: of an old object, of a young one that is reached, and
// of one that is not; whichever of its references it is.
func TestStrayReferences(t *testing.T) {
	w, old, reached, lost := full(t)
	layStrays(w, reached)
	for what, at := range strays(w, old, reached, lost) {
		for _, x := range []int{old, reached, lost} {
			refs, _, _ := w.s.Shape(x)
			for field := range refs {
				had := w.refOf(x, field)
				w.s.SetRef(x, field, at)
				w.fails(fmt.Sprintf("reference %d of %d: %s", field, x, what), api.ErrForm, reached)
				w.s.SetRef(x, field, had)
			}
		}
	}
	w.good("references that are right", reached)
}

// P15.1: references of each kind of class are looked at, the first one of a reference class, too.
func TestStrayReferencesOfKinds(t *testing.T) {
	for _, name := range spaceNames[:3] {
		for n := range sample {
			n++
			length := 0
			if sample[n-1].Kind == api.Array {
				length = 4
			}
			w := newWorld(t, 60, 20, 20, 1)
			at := w.put(theSpaces(&w.y)[name], n, length)
			refs, _, _ := w.s.Shape(at)
			w.dirty.Touch(at)
			for field := range refs {
				for _, to := range []int{at + 1, -1, 80, 99, math.MaxInt} {
					w.s.SetRef(at, field, to)
					w.fails(fmt.Sprintf("reference %d of class %d in %s", field, n, name), api.ErrForm)
				}
				w.s.SetRef(at, field, at)
			}
			w.good("an object that refers to itself", at)
		}
	}
}

// P15.1: Old has room for as many words as Eden and From have allocated, or one fewer.
func TestRoom(t *testing.T) {
	for _, x := range []struct{ old, eden, from int }{
		{0, 0, 0}, {4, 0, 0}, {0, 4, 0}, {0, 0, 4}, {4, 4, 4}, {0, 2, 3}, {2, 20, 11}, {5, 1, 0}, {5, 0, 1},
	} {
		for _, more := range []int{-2, -1, 0, 1} {
			room := x.eden + x.from + more
			if room < 0 {
				continue
			}
			w := newWorld(t, x.old+room, 20, 20, 1)
			for _, part := range []struct {
				where *space.Space
				words int
			}{{&w.y.Old, x.old}, {&w.y.Eden, x.eden}, {&w.y.From, x.from}} {
				if part.words > 0 {
					w.gap(part.where, part.words)
				}
			}
			want := api.OK
			if more < 0 {
				want = api.ErrFull
			}
			what := fmt.Sprintf("%+v, and room for %d words", x, room)
			if _, e := w.run(what, 0); e != want {
				t.Errorf("%s: error %d, want %d", what, e, want)
			}
		}
	}
}

// P15.1: it is words that count, whether they survive or not, and whether To has room for them or not.
func TestRoomForAll(t *testing.T) {
	for _, threshold := range []int{0, 1, mostAge} {
		for _, more := range []int{-1, 0} {
			w := newWorld(t, 4+13+more, 20, 20, threshold)
			old := w.put(&w.y.Old, pair, 0)
			x := w.put(&w.y.Eden, pair, 0)
			w.put(&w.y.Eden, numbers, 0)
			z := w.put(&w.y.From, pair, 0)
			w.link(old, x)
			w.link(x, z)
			if more < 0 {
				w.fails("one word fewer", api.ErrFull, x)
				continue
			}
			w.good("just as many words", x)
		}
	}
	w := newWorld(t, 40, 20, 20, 0)
	var roots []int
	for range 5 {
		roots = append(roots, w.put(&w.y.Eden, pair, 0), w.put(&w.y.From, pair, 0))
	}
	w.good("all of Eden and From is moved to Old", roots...)
	if w.y.Old.Room() != 0 {
		t.Errorf("the spaces became %+v", w.y)
	}
}

// P15.1: an old object with a reference to a young one is dirty if its own address's card is.
func TestNotDirty(t *testing.T) {
	build := func() (w *world, first, second, third, young int) {
		w = newWorld(t, 80, 20, 20, 1)
		first = w.put(&w.y.Old, array, 12)   // 1 to 14
		second = w.put(&w.y.Old, array, 6)   // 15 to 22, over two cards
		third = w.put(&w.y.Old, pair, 0)     // 23 to 26
		young = w.put(&w.y.Eden, numbers, 0) // reached, or not
		return
	}
	w, first, second, third, young := build()
	if first != 1 || second != 15 || third != 23 {
		t.Fatalf("the old objects are at %d, %d, %d", first, second, third)
	}
	w.good("none leads to a young one", young)
	for _, at := range []int{first, second, third} {
		w, _, _, _, young := build()
		refs, _, _ := w.s.Shape(at)
		for field := range refs {
			w.s.SetRef(at, field, young)
			w.fails("no card is dirty", api.ErrState)
			w.fails("no card is dirty, and it is a root", api.ErrState, young)
			w.s.SetRef(at, field, 0)
		}
		w.s.SetRef(at, refs-1, young)
		for touched := 1; touched <= 80; touched++ {
			w.dirty.Wipe()
			w.dirty.Touch(touched)
			if (touched-1)/cardWords == (at-1)/cardWords {
				continue
			}
			w.fails(fmt.Sprintf("%d leads to a young object, and the card of %d is dirty", at, touched), api.ErrState)
		}
		w.dirty.Wipe()
		w.dirty.Touch(at)
		w.good("its card is dirty")
	}
	w, first, second, third, young = build()
	w.s.SetRef(first, 0, young)
	w.s.SetRef(second, 5, young) // at 22, in the second card
	w.dirty.Touch(second + 7)
	w.fails("the card of the reference is dirty, that of the object is not", api.ErrState)
	w.dirty.Touch(first)
	w.good("the card of two old objects is dirty")
	w, first, _, third, young = build()
	w.s.SetRef(first, 0, young)
	w.s.SetRef(third, 0, young)
	w.dirty.Touch(third)
	w.fails("one of two is clean", api.ErrState)
	w, first, _, _, young = build()
	w.s.SetRef(first, 11, young)
	w.s.SetRef(first, 10, first)
	w.dirty = nil
	w.fails("a nil table", api.ErrState, young)
	w.s.SetRef(first, 11, 0)
	w.good("a nil table, and no reference to a young one", young)
}

// P15.1: a table that does not cover an old object's address has no dirty card for it.
func TestCardsElsewhere(t *testing.T) {
	for _, x := range []struct {
		from, to int
		want     api.Errno
	}{
		{0, 0, api.ErrState}, {1, 1, api.ErrState}, {1, 2, api.OK}, {0, 1, api.ErrState}, {2, 81, api.ErrState},
		{0, 2, api.OK}, {0, mostWords, api.OK}, {1, 81, api.OK}, {100, 120, api.ErrState},
	} {
		w := newWorld(t, 80, 20, 20, 1)
		w.cardFrom, w.cardTo = x.from, x.to
		w.dirty = card.New(x.from, x.to)
		old := w.put(&w.y.Old, pair, 0)
		young := w.put(&w.y.Eden, pair, 0)
		w.link(old, young)
		for at := range 130 {
			w.dirty.Touch(at)
		}
		if _, e := w.run(fmt.Sprintf("cards from %d to %d", x.from, x.to)); e != x.want {
			t.Errorf("cards from %d to %d: error %d, want %d", x.from, x.to, e, x.want)
		}
	}
	w := newWorld(t, 80, 20, 20, 2)
	w.cardFrom, w.cardTo, w.dirty = 0, 0, &card.Table{}
	old := w.put(&w.y.Eden, pair, 0)
	young := w.put(&w.y.Eden, pair, 0)
	w.setAge(old, 5)
	w.link(old, young)
	w.good("a table without cards", old)
}

// P15.1: the first of the errors that apply is returned.
func TestPairsOfErrors(t *testing.T) {
	type fault struct {
		what string
		e    api.Errno
		do   func(w *world, old, reached, lost int, roots *[]int)
	}
	faults := []fault{
		{"Old is not valid", api.ErrArg, func(w *world, _, _, _ int, _ *[]int) { w.y.Old.Top = w.y.Old.End + 1 }},
		{"Eden is not valid", api.ErrArg, func(w *world, _, _, _ int, _ *[]int) { w.y.Eden.From = w.y.Eden.Top + 1 }},
		{"Old begins at 0", api.ErrArg, func(w *world, _, _, _ int, _ *[]int) { w.y.Old.From = 0 }},
		{"To ends beyond the arena", api.ErrArg, func(w *world, _, _, _ int, _ *[]int) { w.y.To.End = w.a.Len() + 1 }},
		{"Eden meets From", api.ErrArg, func(w *world, _, _, _ int, _ *[]int) { w.y.Eden.End++ }},
		{"To is not empty", api.ErrArg, func(w *world, _, _, _ int, _ *[]int) { w.y.To.Top++ }},
		{"To is smaller", api.ErrArg, func(w *world, _, _, _ int, _ *[]int) { w.y.To.End-- }},
		{"the Threshold is above MaxAge", api.ErrArg, func(w *world, _, _, _ int, _ *[]int) { w.y.Threshold = 8 }},
		{"the Threshold is below 0", api.ErrArg, func(w *world, _, _, _ int, _ *[]int) { w.y.Threshold = -1 }},
		{"no header in Old", api.ErrForm, func(w *world, _, _, _ int, _ *[]int) { w.a.Store(6, -1) }},
		{"no header in Eden", api.ErrForm, func(w *world, _, _, lost int, _ *[]int) { w.a.Store(lost, -1) }},
		{"no header in From", api.ErrForm, func(w *world, _, _, _ int, _ *[]int) { w.a.Store(w.y.From.From+9, -1) }},
		{"From ends above its Top", api.ErrForm, func(w *world, _, _, _ int, _ *[]int) { w.y.From.Top-- }},
		{"a root leads nowhere", api.ErrForm, func(_ *world, _, _, _ int, roots *[]int) { *roots = append(*roots, 2) }},
		{"an old reference leads nowhere", api.ErrForm, func(w *world, old, _, _ int, _ *[]int) { w.s.SetRef(old, 1, -1) }},
		{"a young reference leads nowhere", api.ErrForm, func(w *world, _, reached, _ int, _ *[]int) { w.s.SetRef(reached, 1, 2) }},
		{"a lost reference leads nowhere", api.ErrForm, func(w *world, _, _, lost int, _ *[]int) { w.s.SetRef(lost, 0, 2) }},
		{"Old has no room", api.ErrFull, func(w *world, _, _, _ int, _ *[]int) { w.y.Old.End = w.y.Old.Top }},
		{"Old lacks one word", api.ErrFull, func(w *world, _, _, _ int, _ *[]int) {
			w.y.Old.End = w.y.Old.Top + w.y.Eden.Used() + w.y.From.Used() - 1
		}},
		{"an old object is clean", api.ErrState, func(w *world, _, _, _ int, _ *[]int) { w.dirty.Wipe() }},
		{"there are no cards", api.ErrState, func(w *world, _, _, _ int, _ *[]int) { w.dirty = nil }},
	}
	for _, f := range faults {
		for _, g := range faults {
			w, old, reached, lost := full(t)
			roots := []int{reached, old}
			f.do(w, old, reached, lost, &roots)
			g.do(w, old, reached, lost, &roots)
			if f.what == g.what {
				continue
			}
			w.fails(f.what+", and "+g.what, rank(f.e, g.e), roots...)
		}
		w, old, reached, lost := full(t)
		roots := []int{reached, old}
		f.do(w, old, reached, lost, &roots)
		w.fails(f.what, f.e, roots...)
	}
}

// rank is that of two errors which the chapter names first.
func rank(e, f api.Errno) api.Errno {
	for _, x := range []api.Errno{api.ErrArg, api.ErrForm, api.ErrFull, api.ErrState} {
		if e == x || f == x {
			return x
		}
	}
	return api.OK
}
