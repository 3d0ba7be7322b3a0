package shelf

import (
	"cmp"
	"maps"
	"slices"

	"flotilla/api"
	"flotilla/bits"
)

// noName is what no queue and no group is named; so a slot whose queue has it is free, and every name is above it.
const noName = ""

// queue is what lies in a slot.
type queue struct {
	name   string
	first  int
	items  []string
	groups map[string]int // the index that each group takes next, by the group's name
}

func newQueue(name string) queue { return queue{name: name, groups: map[string]int{}} }

func (q *queue) isFree() bool { return q.name == noName }

func (q *queue) end() int { return q.first + len(q.items) }

// trim lets the items below an index go that is not below First and not above End.
func (q *queue) trim(below int) {
	q.items = slices.Delete(q.items, 0, below-q.first)
	q.first = below
	for name, next := range q.groups {
		q.groups[name] = max(next, below)
	}
}

// byName are the groups in the order in which they are told.
func (q *queue) byName() []api.Group {
	var groups []api.Group
	for name, next := range q.groups {
		groups = append(groups, api.Group{Name: name, Next: next})
	}
	slices.SortFunc(groups, func(a, b api.Group) int { return cmp.Compare(a.Name, b.Name) })
	return groups
}

func (q *queue) told() api.Queue {
	return api.Queue{Name: q.name, First: q.first, Items: slices.Clone(q.items), Groups: q.byName()}
}

func (q *queue) clone() queue {
	twin := *q
	twin.items, twin.groups = slices.Clone(q.items), maps.Clone(q.groups)
	return twin
}

func (q *queue) bytes() []byte {
	w := bits.NewWriter()
	w.Text(q.name)
	w.Num(q.first)
	putItems(w, q.items)
	w.Num(len(q.groups))
	for _, g := range q.byName() {
		w.Text(g.Name)
		w.Num(g.Next)
	}
	b, _ := w.Done() // no number of a queue is below 0
	return b
}

// readQueue makes a queue of bytes; false: they are none's.
func readQueue(b []byte) (queue, bool) {
	r := bits.NewReader(b)
	q := newQueue(r.Text(api.MaxName))
	q.first = r.Num(api.MaxIndex)
	q.items = getItems(r, api.MaxItems)
	if q.isFree() || q.end() > api.MaxIndex {
		r.Fail(api.ErrShelfForm)
	}
	last := noName
	for range r.Num(api.MaxGroups) {
		name := r.Text(api.MaxName)
		next := r.Num(q.end())
		if name <= last || next < q.first {
			r.Fail(api.ErrShelfForm)
		}
		q.groups[name], last = next, name
	}
	if r.Close() != api.OK {
		return queue{}, false
	}
	return q, true
}
