package forest

import (
	"slices"

	"quartermaster/api"
)

// node is one of a forest's. Children are linked, each to those ahead of it and behind it, so that none is looked for among its siblings when it leaves.
type node struct {
	id            int
	owner         api.Spot
	parent        *node
	first, last   *node
	ahead, behind *node
}

// number is a node's; 0 of none.
func (n *node) number() int {
	if n == nil {
		return 0
	}
	return n.id
}

// join makes a node, which has no parent, the last of that parent's children; a root without a parent.
func (n *node) join(parent *node) {
	if parent == nil {
		return
	}
	n.parent, n.ahead = parent, parent.last
	if n.ahead == nil {
		parent.first = n
	} else {
		n.ahead.behind = n
	}
	parent.last = n
}

// leave takes a node out of its parent's children.
func (n *node) leave() {
	if n.parent == nil {
		return
	}
	if n.ahead == nil {
		n.parent.first = n.behind
	} else {
		n.ahead.behind = n.behind
	}
	if n.behind == nil {
		n.parent.last = n.ahead
	} else {
		n.behind.ahead = n.ahead
	}
	n.parent, n.ahead, n.behind = nil, nil, nil
}

// kids are a node's children, in their order.
func (n *node) kids() []*node {
	var l []*node
	for k := n.first; k != nil; k = k.behind {
		l = append(l, k)
	}
	return l
}

// below is all below a node, in the order in which it goes. It is found the other way round, each node ahead of its children and the last child first, since what is to be worked off is taken from the list's end.
func (n *node) below() []*node {
	var found []*node
	left := n.kids()
next:
	if end := len(left) - 1; end >= 0 {
		x := left[end]
		found = append(found, x)
		left = append(left[:end], x.kids()...)
		goto next
	}
	slices.Reverse(found)
	return found
}

// numbers are those of nodes.
func numbers(l ...*node) []int {
	var ids []int
	for _, n := range l {
		ids = append(ids, n.id)
	}
	return ids
}
