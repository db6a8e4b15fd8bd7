package merkle

import "pharos/sha"

// level is all nodes of a tree that stand at one height. Behind the last chunk they are all the same, so
// that one stands for all of them: a tree may have many more leaves than could be held.
type level struct {
	nodes [][32]byte // those that a chunk is under; never written to: of the leaves they are the caller's
	rest  [32]byte   // each one behind them
}

// at answers the node at a place.
func (l level) at(place uint64) [32]byte {
	if place < uint64(len(l.nodes)) {
		return l.nodes[place]
	}
	return l.rest
}

// up answers the level above.
func (l level) up() level {
	count := uint64(len(l.nodes))
	above := level{
		nodes: make([][32]byte, 0, count/2+count%2),
		rest:  sha.Pair(l.rest, l.rest),
	}
	for place := uint64(0); place < count; place += 2 {
		above.nodes = append(above.nodes, sha.Pair(l.at(place), l.at(place+1)))
	}
	return above
}

// top answers the root of the tree so deep over chunks, noughts behind them.
func top(chunks [][32]byte, depth int) [32]byte {
	l := level{nodes: chunks}
	for range depth {
		l = l.up()
	}
	return l.at(0)
}
