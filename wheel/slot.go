package wheel

import (
	"cmp"
	"iter"
	"slices"
)

type deadline struct {
	id int
	at int64
}

// A node is a deadline in its slot's list.
type node struct {
	deadline
	before, behind *node
}

// ahead is below 0 if a is ahead of b.
func ahead(a, b deadline) int {
	return cmp.Or(cmp.Compare(a.at, b.at), cmp.Compare(a.id, b.id))
}

// along gives a list's nodes, in no order that may be told.
func along(first *node) iter.Seq[*node] {
	return func(yield func(*node) bool) {
		for n := first; n != nil; n = n.behind {
			if !yield(n) {
				return
			}
		}
	}
}

// inOrder gives a list's nodes, each ahead of the next.
func inOrder(first *node) []*node {
	return slices.SortedFunc(along(first), func(a, b *node) int { return ahead(a.deadline, b.deadline) })
}

// earliest tells the least time of a list that has a node.
func earliest(first *node) int64 {
	at := first.at
	for n := range along(first) {
		at = min(at, n.at)
	}
	return at
}
