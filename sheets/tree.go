package sheets

import "flotilla/api"

// The nodes stand in one row: the root is node 1, below node k stand 2k and 2k+1, and the leaves are the last ones.
const (
	root  = 1
	nodes = 2 * api.MaxSheets
	room  = 8 // nodes of a piece
)

// node has a stamp: a leaf its sheet's, beside that sheet's bytes; an inner node the greatest of those below it.
type node struct {
	at   int
	data []byte
}

type piece [room]node

// tree is the tree of stamps. A piece that was made is never written again, nor are the bytes that a node has:
// so a copy of a tree shares them with it, and stays what it was.
type tree struct {
	leaves int
	pieces [nodes / room]*piece
}

// newTree has so many leaves that there is one for each of n sheets. Nothing is written, so one piece is all of them.
func newTree(n int) tree {
	t := tree{leaves: 1}
	for t.leaves < n {
		t.leaves *= 2
	}
	blank := new(piece)
	for i := range t.pieces {
		t.pieces[i] = blank
	}
	return t
}

func (t *tree) node(k int) *node { return &t.pieces[k/room][k%room] }

func (t *tree) isLeaf(k int) bool { return k >= t.leaves }

func (t *tree) leaf(num int) *node { return t.node(t.leaves + num) }

func (t *tree) last() int { return t.node(root).at }

// write lays a node into a copy of its piece: whoever shares that one goes on having the old one.
func (t *tree) write(k int, x node) {
	fresh := *t.pieces[k/room]
	fresh[k%room] = x
	t.pieces[k/room] = &fresh
}

// setLeaf gives a sheet its bytes and its stamp, and the nodes above it what follows from that.
func (t *tree) setLeaf(num int, x node) {
	k := t.leaves + num
	t.write(k, x)
	for k > root {
		k /= 2
		t.write(k, node{at: max(t.node(2*k).at, t.node(2*k+1).at)})
	}
}

// look goes from k down through the nodes that have to be looked at for what is newer than at, leaves by rising numbers,
// till see answers false; it answers what the last see has.
func (t *tree) look(k, at int, see func(k int) bool) bool {
	if !see(k) {
		return false
	}
	if t.isLeaf(k) || t.node(k).at <= at {
		return true
	}
	return t.look(2*k, at, see) && t.look(2*k+1, at, see)
}
