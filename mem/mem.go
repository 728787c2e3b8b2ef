// Package mem is layer 1: see shared/doc/01-mem.md.
package mem

import "gleaning/api"

// Arena is words.
type Arena struct {
	words []int
}

// New is an arena of so many words, all 0.
func New(words int) *Arena {
	return &Arena{words: make([]int, min(max(words, 0), api.MaxWords))}
}

// all makes a nil Arena answer as one without words.
func (a *Arena) all() []int {
	if a == nil {
		return nil
	}
	return a.words
}

// exists subtracts because the sum of at and words may wrap round.
func (a *Arena) exists(at, words int) bool {
	return at >= 0 && words >= 0 && words <= a.Len()-at
}

// Len is how many words there are.
func (a *Arena) Len() int { return len(a.all()) }

// Load is a word.
func (a *Arena) Load(at int) (int, api.Errno) {
	if !a.exists(at, 1) {
		return 0, api.ErrRange
	}
	return a.all()[at], api.OK
}

// Store lays a word.
func (a *Arena) Store(at, word int) api.Errno {
	if !a.exists(at, 1) {
		return api.ErrRange
	}
	a.all()[at] = word
	return api.OK
}

// Move moves words, wherever they overlap.
func (a *Arena) Move(to, from, words int) api.Errno {
	if !a.exists(to, words) || !a.exists(from, words) {
		return api.ErrRange
	}
	all := a.all()
	copy(all[to:to+words], all[from:from+words])
	return api.OK
}

// Fill lays the same word into some.
func (a *Arena) Fill(at, words, word int) api.Errno {
	if !a.exists(at, words) {
		return api.ErrRange
	}
	all := a.all()
	for i := range words {
		all[at+i] = word
	}
	return api.OK
}

// Words is some words, as a list of its own.
func (a *Arena) Words(at, words int) ([]int, api.Errno) {
	if !a.exists(at, words) {
		return nil, api.ErrRange
	}
	list := make([]int, words)
	copy(list, a.all()[at:at+words])
	return list, api.OK
}
