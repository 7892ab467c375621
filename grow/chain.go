package grow

import (
	"quietus/arena"
)

// link is a node, and what comes to be its Next.
type link struct{ node, next arena.Handle }

// chain is a chain of the elder table, as far as it was gone along, and how it is parted. Of the two buckets that it becomes, the half 0 is the one of the elder bucket's number, the half 1 the other one.
type chain struct {
	// first and last are, of each half, the first and the last node that were read; 0, if it has none.
	first, last [2]arena.Handle
	// half is that of the node that was read last, and halves are those of all that were read.
	half   int
	halves map[arena.Handle]int
	// links are in the order of the chain: none of their nodes is reached by the other half any more, once those ahead of it are linked.
	links []link
}

// newChain is a chain of which nothing was read.
func newChain() *chain { return &chain{halves: map[arena.Handle]int{}} }

// met says whether a node was read already.
func (c *chain) met(h arena.Handle) bool {
	_, met := c.halves[h]
	return met
}

// add has a node come behind those that were read. If nodes of the other half stand between it and the last one of its own, that has to pass over them.
func (c *chain) add(h arena.Handle, half int) {
	switch {
	case c.first[half] == 0:
		c.first[half] = h
	case half != c.half:
		c.links = append(c.links, link{c.last[half], h})
	}
	c.last[half], c.half = h, half
	c.halves[h] = half
}

// end says all links, of a chain at whose end this handle stands: 0, or one that can't be read, or that was met already. The half that doesn't come up to the end ends ahead of the other one's last nodes; the one that does must not come back to the other one's.
func (c *chain) end(h arena.Handle) []link {
	if last := c.last[1-c.half]; last != 0 {
		c.links = append(c.links, link{last, 0})
	}
	if half, met := c.halves[h]; met && half != c.half {
		c.links = append(c.links, link{c.last[c.half], 0})
	}
	return c.links
}
