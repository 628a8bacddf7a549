// Package pattern: patterns, as nodes with links between them, and what they match.
package pattern

import "grammar/chars"

// Pattern is a pattern that was read.
type Pattern struct {
	nodes      []node
	start, end int
}

// Longest is the end of the longest text that begins at a place of a text and
// that the pattern matches, or -1 if it matches none there.
//
// All ways through the nodes are gone at once, byte by byte: then the work
// grows with the nodes and the bytes alone, whatever is repeated in the pattern.
func (p Pattern) Longest(text string, from int) int {
	longest := -1
	if from < 0 {
		return longest
	}
	now := newCrowd(len(p.nodes))
	then := newCrowd(len(p.nodes))
	now.enter(p.start)
	for at := from; at <= len(text) && now.count > 0; at++ {
		p.spread(now)
		if now.holds(p.end) {
			longest = at
		}
		then.empty()
		c := chars.At(text, at)
		p.step(now, c, then)
		now, then = then, now
	}
	return longest
}

// spread lets in all nodes to which links lead from those within, nothing being read.
func (p Pattern) spread(now *crowd) {
	for i := 0; i < now.count; i++ {
		n := now.member(i)
		if n < 0 || n >= len(p.nodes) || p.nodes[n].reads {
			continue
		}
		now.enter(p.nodes[n].next)
		now.enter(p.nodes[n].other)
	}
}

// step lets into then all nodes to which those of now lead behind the byte c.
func (p Pattern) step(now *crowd, c int, then *crowd) {
	if c == chars.None {
		return
	}
	for i := 0; i < now.count; i++ {
		n := now.member(i)
		if n < 0 || n >= len(p.nodes) || !p.nodes[n].reads {
			continue
		}
		if p.nodes[n].set.has(byte(c)) {
			then.enter(p.nodes[n].next)
		}
	}
}
