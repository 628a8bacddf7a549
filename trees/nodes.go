package trees

import (
	"grammar/api"
	"grammar/prods"
)

// A leaf has no production, and no other node has a kind.
const (
	noProduction = -1
	noKind       = -1
)

// writeDown makes the list of the nodes of a tree.
func writeDown(table prods.Table, steps []step) []api.Node {
	nodes := make([]api.Node, len(steps))
	leaves := 0
	for i, s := range steps {
		number := int(s.number)
		if s.isLeaf {
			nodes[i] = api.Node{Prod: noProduction, Kind: number, At: leaves}
			leaves++
		} else {
			nodes[i] = api.Node{Prod: number, Kind: noKind, At: leaves}
		}
	}
	// From the last one on, for a node's size is made of those of its children,
	// which lie behind it.
	for i := len(nodes) - 1; i >= 0; i-- {
		nodes[i].Size = sizeOf(table, nodes, i)
	}
	return nodes
}

// sizeOf is the size of a node, if those of its children are there.
func sizeOf(table prods.Table, nodes []api.Node, at int) int {
	size := 1
	for left := childrenOf(table, nodes, at); left > 0 && at+size < len(nodes); left-- {
		size += nodes[at+size].Size
	}
	return size
}

// childrenOf is how many children a node has.
func childrenOf(table prods.Table, nodes []api.Node, at int) int {
	if at < 0 || at >= len(nodes) {
		return 0
	}
	number := nodes[at].Prod
	if number < 0 || number >= len(table.Productions) {
		return 0
	}
	return len(table.Productions[number].Symbols)
}
