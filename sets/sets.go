// Package sets: what is known of heads, and where their productions clash.
package sets

import (
	"grammar/api"
	"grammar/prods"
)

// head is what is known of a head.
type head struct {
	nullable bool
	reached  bool
	fruitful bool
	first    tokens
	follow   tokens
}

// finder holds the productions, and what has been found of each head so far.
// What is found only ever grows, so going over the productions again until
// nothing is new comes to an end, and to the least sets.
type finder struct {
	table prods.Table
	heads []head
}

// Find is the sets of the heads, in their order.
func Find(table prods.Table) []api.Set {
	f := find(table)
	var found []api.Set
	for _, h := range f.heads {
		first := h.first.list()
		follow := h.follow.list()
		found = append(found, api.Set{Nullable: h.nullable, First: first, Follow: follow, Reached: h.reached, Fruitful: h.fruitful})
	}
	return found
}

func find(table prods.Table) *finder {
	f := &finder{table: table}
	for i := 0; i < table.Heads; i++ {
		var h head
		if i == 0 {
			h.reached = true
			h.follow = h.follow.with(table.Rules)
		}
		f.heads = append(f.heads, h)
	}
	f.findAll()
	return f
}

func (f *finder) findAll() {
	grown := true
	for grown {
		grown = f.growBeginnings()
	}
	// What follows hangs on what begins, so that must be all there.
	grown = true
	for grown {
		grown = f.growFollows()
	}
	grown = true
	for grown {
		grown = f.growReached()
	}
	grown = true
	for grown {
		grown = f.growFruitful()
	}
}

// get is what is known of the head of a number.
func (f *finder) get(number int) head {
	if number < 0 || number >= len(f.heads) {
		return head{}
	}
	return f.heads[number]
}

// put lays down what is known of the head of a number, and tells whether that is new.
func (f *finder) put(number int, h head) bool {
	if number < 0 || number >= len(f.heads) || f.heads[number] == h {
		return false
	}
	f.heads[number] = h
	return true
}

// begin is the rules with which strings begin that the symbols derive, and
// whether they derive the empty string, as far as it is known of the heads.
func (f *finder) begin(symbols []prods.Symbol) (tokens, bool) {
	var first tokens
	for _, symbol := range symbols {
		if !symbol.IsHead {
			return first.with(symbol.Number), false
		}
		h := f.get(symbol.Number)
		first = first.union(h.first)
		if !h.nullable {
			return first, false
		}
	}
	return first, true
}

// growBeginnings goes once over the productions for nullable and first, and
// tells, as all that grow, whether something is new.
func (f *finder) growBeginnings() bool {
	grown := false
	for _, production := range f.table.Productions {
		first, empty := f.begin(production.Symbols)
		h := f.get(production.Head)
		h.nullable = h.nullable || empty
		h.first = h.first.union(first)
		if f.put(production.Head, h) {
			grown = true
		}
	}
	return grown
}

func (f *finder) growFollows() bool {
	grown := false
	for _, production := range f.table.Productions {
		for i, symbol := range production.Symbols {
			if !symbol.IsHead {
				continue
			}
			behind, empty := f.begin(production.Symbols[i+1:])
			if empty {
				whole := f.get(production.Head)
				behind = behind.union(whole.follow)
			}
			h := f.get(symbol.Number)
			h.follow = h.follow.union(behind)
			if f.put(symbol.Number, h) {
				grown = true
			}
		}
	}
	return grown
}

func (f *finder) growReached() bool {
	grown := false
	for _, production := range f.table.Productions {
		whole := f.get(production.Head)
		if !whole.reached {
			continue
		}
		for _, symbol := range production.Symbols {
			if !symbol.IsHead {
				continue
			}
			h := f.get(symbol.Number)
			h.reached = true
			if f.put(symbol.Number, h) {
				grown = true
			}
		}
	}
	return grown
}

func (f *finder) growFruitful() bool {
	grown := false
	for _, production := range f.table.Productions {
		h := f.get(production.Head)
		if f.allFruitful(production.Symbols) {
			h.fruitful = true
		}
		if f.put(production.Head, h) {
			grown = true
		}
	}
	return grown
}

// allFruitful tells whether the symbols derive a string without heads.
func (f *finder) allFruitful(symbols []prods.Symbol) bool {
	for _, symbol := range symbols {
		if !symbol.IsHead {
			continue
		}
		h := f.get(symbol.Number)
		if !h.fruitful {
			return false
		}
	}
	return true
}
