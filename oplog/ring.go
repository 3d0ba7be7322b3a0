package oplog

// ring holds things by their numbers, from 0 on. A number's place is reckoned modulo the room, so that nothing moves
// when others go; things whose numbers differ by less than the room never meet.
type ring[T any] struct {
	places []T
}

func newRing[T any](room int) ring[T] { return ring[T]{places: make([]T, room)} }

func (r ring[T]) room() int { return len(r.places) }

func (r ring[T]) place(num int) int { return num % len(r.places) }

func (r ring[T]) get(num int) T { return r.places[r.place(num)] }

func (r ring[T]) put(num int, x T) { r.places[r.place(num)] = x }

// free keeps a place from holding on to what is gone.
func (r ring[T]) free(num int) {
	var none T
	r.put(num, none)
}

// list tells so many, at most the room, from a number on: those up to the last place, and the rest from the first one on.
func (r ring[T]) list(num, many int) []T {
	l := make([]T, many)
	n := copy(l, r.places[r.place(num):])
	copy(l[n:], r.places)
	return l
}

func (r ring[T]) clone() ring[T] {
	twin := newRing[T](r.room())
	copy(twin.places, r.places)
	return twin
}
