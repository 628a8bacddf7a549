package sets

import (
	"grammar/api"
	"grammar/prods"
)

// Guide tells the way through productions of which no two clash.
type Guide struct {
	finder *finder
	// choices is, for each head and token, the production that the token stands ahead of.
	choices [api.MaxHeads][api.MaxRules + 1]int
}

// none stands among the choices where no production can be chosen.
const none = -1

// NewGuide is the guide through the productions of a table.
func NewGuide(table prods.Table) *Guide {
	f := find(table)
	ahead := f.findAhead()
	g := &Guide{finder: f}
	for number := range g.choices {
		for token := range g.choices[number] {
			g.choices[number][token] = none
			able := productionsOver(table, ahead, number, token)
			if len(able) > 0 {
				g.choices[number][token] = able[0]
			}
		}
	}
	return g
}

// Choose is the production of a head that a token stands ahead of, or -1.
func (g *Guide) Choose(number int, token int) int {
	if number < 0 || number >= len(g.choices) || token < 0 || token >= len(g.choices[number]) {
		return none
	}
	return g.choices[number][token]
}

// Wanted is the rules with which strings begin that the symbols derive, and the
// END, if they derive the empty string: rising. The last symbol stands first in
// the string, for so they lie on a stack.
func (g *Guide) Wanted(stack []prods.Symbol) []int {
	var wanted tokens
	for i := len(stack) - 1; i >= 0; i-- {
		first, empty := g.finder.begin(stack[i : i+1])
		wanted = wanted.union(first)
		if !empty {
			return wanted.list()
		}
	}
	wanted = wanted.with(g.finder.table.Rules)
	return wanted.list()
}
