// Package trees: the trees of strings of kinds.
package trees

import (
	"grammar/api"
	"grammar/prods"
	"grammar/sets"
)

// step is a node that the tree grows by. Heads that derive the empty string can
// make many millions of them, so it is small, and the list of nodes is made
// only when it is known how many there are.
type step struct {
	isLeaf bool
	// number is the rule of a leaf, else the production.
	number int8
}

// grower makes a tree from its root on and from left to right. On the stack lie
// the symbols that have no node yet, the next one last.
type grower struct {
	table prods.Table
	guide *sets.Guide
	stack []prods.Symbol
	steps []step
}

// Grow makes the tree of a string of kinds by productions of which no two
// clash. If there is none, it answers ErrSyntax, the place of the first kind
// that is wrong, and what is wanted there.
func Grow(table prods.Table, kinds []int) (api.Parsed, api.Errno) {
	guide := sets.NewGuide(table)
	start := prods.Symbol{IsHead: true, Number: 0}
	g := &grower{table: table, guide: guide, stack: []prods.Symbol{start}}
	for at := 0; at <= len(kinds); at++ {
		// Behind the last kind stands the END.
		kind := table.Rules
		if at < len(kinds) {
			kind = kinds[at]
		}
		// What follows a head somewhere need not follow it here: only the
		// stack, as it is ahead of any choice by this kind, tells what can.
		wanted := guide.Wanted(g.stack)
		if !isIn(wanted, kind) {
			return api.Parsed{Wanted: wanted, At: at}, api.ErrSyntax
		}
		g.growTo(kind)
	}
	nodes := writeDown(table, g.steps)
	return api.Parsed{Nodes: nodes}, api.OK
}

func isIn(numbers []int, number int) bool {
	for _, n := range numbers {
		if n == number {
			return true
		}
	}
	return false
}

// growTo grows the tree up to the leaf of a kind that is wanted, or, if that is
// the END, to its last node. It comes to an end: as nothing clashes, the one
// production of each head that can be chosen is the one by which the shortest
// way to the kind goes, so that way is taken.
func (g *grower) growTo(kind int) {
	for len(g.stack) > 0 {
		last := len(g.stack) - 1
		symbol := g.stack[last]
		g.stack = g.stack[:last]
		if !symbol.IsHead {
			g.steps = append(g.steps, step{isLeaf: true, number: int8(symbol.Number)})
			return
		}
		number := g.guide.Choose(symbol.Number, kind)
		g.open(number)
	}
}

// open grows the tree by the node of a production, and lays its symbols on the stack.
func (g *grower) open(number int) {
	if number < 0 || number >= len(g.table.Productions) {
		return
	}
	g.steps = append(g.steps, step{number: int8(number)})
	symbols := g.table.Productions[number].Symbols
	for i := len(symbols) - 1; i >= 0; i-- {
		g.stack = append(g.stack, symbols[i])
	}
}
