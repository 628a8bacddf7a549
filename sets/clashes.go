package sets

import (
	"grammar/api"
	"grammar/prods"
)

// Clashes is the clashes of the productions: by head, then token, then first, then second.
func Clashes(table prods.Table) []api.Clash {
	f := find(table)
	ahead := f.findAhead()
	var clashes []api.Clash
	for number := 0; number < table.Heads; number++ {
		for token := 0; token <= table.Rules; token++ {
			able := productionsOver(table, ahead, number, token)
			for i, first := range able {
				for _, second := range able[i+1:] {
					clashes = append(clashes, api.Clash{Head: number, Token: token, First: first, Second: second})
				}
			}
		}
	}
	return clashes
}

// findAhead is what stands ahead of each production.
func (f *finder) findAhead() []tokens {
	var all []tokens
	for _, production := range f.table.Productions {
		ahead, empty := f.begin(production.Symbols)
		if empty {
			whole := f.get(production.Head)
			ahead = ahead.union(whole.follow)
		}
		all = append(all, ahead)
	}
	return all
}

// productionsOver is the productions of a head, ahead of which a token stands, rising.
func productionsOver(table prods.Table, ahead []tokens, number int, token int) []int {
	var able []int
	for i, production := range table.Productions {
		if production.Head == number && i < len(ahead) && ahead[i].has(token) {
			able = append(able, i)
		}
	}
	return able
}
