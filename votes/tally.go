package votes

import (
	"iter"

	"flotilla/api"
)

// Tally keeps what each of n has said last.
type Tally[T any] struct {
	n    int
	said [api.MaxReplicas]word[T] // at each voter's number; behind n nobody has said anything
}

// word is what a voter has said, if they have: of a T alone it can't be told.
type word[T any] struct {
	what T
	is   bool
}

// New is a tally of n voters.
func New[T any](n int) (*Tally[T], api.Errno) {
	if !within(n, 1, api.MaxReplicas) {
		return nil, api.ErrVotesSize
	}
	return &Tally[T]{n: n}, api.OK
}

// Add lays down what one says; is it the first that it said?
func (t *Tally[T]) Add(who int, v T) (bool, api.Errno) {
	if !t.has(who) {
		return false, api.ErrVotesWho
	}
	first := !t.said[who].is
	t.said[who] = word[T]{what: v, is: true}
	return first, api.OK
}

// Get tells what one has said.
func (t *Tally[T]) Get(who int) (T, bool) {
	if !t.has(who) {
		var none T
		return none, false
	}
	return t.said[who].what, t.said[who].is
}

// Drop forgets what one has said.
func (t *Tally[T]) Drop(who int) bool {
	if !t.has(who) {
		return false
	}
	had := t.said[who].is
	t.said[who] = word[T]{}
	return had
}

// Count tells how many have said something.
func (t *Tally[T]) Count() int {
	count := 0
	for range t.All() {
		count++
	}
	return count
}

// All gives who has said what, rising.
func (t *Tally[T]) All() iter.Seq2[int, T] {
	return func(yield func(int, T) bool) {
		said := t.said // the range goes on over what there was, whatever its body does to the tally
		for who, w := range said {
			if w.is && !yield(who, w.what) {
				return
			}
		}
	}
}

// Clear forgets all.
func (t *Tally[T]) Clear() { t.said = [api.MaxReplicas]word[T]{} }

// Clone is a tally that goes its own way.
func (t *Tally[T]) Clone() *Tally[T] {
	twin := *t
	return &twin
}

func (t *Tally[T]) has(who int) bool { return within(who, 0, t.n-1) }
