package pattern

// none is the link of a node that leads nowhere.
const none = -1

// node is a place on the way through a pattern. If it reads, the way goes on
// to next behind a byte of the set; else it goes on to next and to other as it is.
type node struct {
	reads       bool
	set         byteSet
	next, other int
}

// fragment is the part of the nodes that belongs to a piece of a pattern: what
// the piece matches is what is read on the ways from start to end. No link
// leads to a start and none from an end until the fragment is put into a
// greater one, so that no way strays out of a fragment and back into it.
type fragment struct {
	start, end int
}

// builder collects the nodes of one pattern.
type builder struct {
	nodes []node
}

// addNode adds a node without links and answers its number.
func (b *builder) addNode() int {
	b.nodes = append(b.nodes, node{next: none, other: none})
	return len(b.nodes) - 1
}

// link leads from one node to another without reading. No node ever needs more than two.
func (b *builder) link(from, to int) {
	if from < 0 || from >= len(b.nodes) {
		return
	}
	if b.nodes[from].next == none {
		b.nodes[from].next = to
		return
	}
	b.nodes[from].other = to
}

// readOne matches one byte of the set.
func (b *builder) readOne(set byteSet) fragment {
	end := b.addNode()
	b.nodes = append(b.nodes, node{reads: true, set: set, next: end, other: none})
	return fragment{start: len(b.nodes) - 1, end: end}
}

// join matches what the first matches with what the second matches behind it.
func (b *builder) join(first, second fragment) fragment {
	b.link(first.end, second.start)
	return fragment{start: first.start, end: second.end}
}

// either matches what one of both matches.
func (b *builder) either(first, second fragment) fragment {
	start := b.addNode()
	end := b.addNode()
	b.link(start, first.start)
	b.link(start, second.start)
	b.link(first.end, end)
	b.link(second.end, end)
	return fragment{start: start, end: end}
}

// repeat matches what the inner one matches as often as the mark (* + ?) says.
func (b *builder) repeat(inner fragment, mark int) fragment {
	start := b.addNode()
	end := b.addNode()
	b.link(start, inner.start)
	b.link(inner.end, end)
	if mark != '+' {
		b.link(start, end)
	}
	if mark != '?' {
		b.link(inner.end, inner.start)
	}
	return fragment{start: start, end: end}
}
