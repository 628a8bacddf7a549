// Package grammar: token rules and productions, and the trees that they give: see DOC.md.
package grammar

import (
	"grammar/api"
	"grammar/lexer"
	"grammar/prods"
	"grammar/sets"
	"grammar/sheet"
	"grammar/trees"
)

// Check tells whether a specification is right, and where it is not (P3).
func Check(spec string) (api.Errno, int) {
	_, err, at := sheet.Check(spec)
	return err, at
}

// Match tells whether a rule matches a text (P4).
func Match(spec string, rule int, text string) (bool, api.Errno) {
	rules, err := readRules(spec, text)
	if err != api.OK {
		return false, err
	}
	if rule < 0 || rule >= len(rules) {
		return false, api.ErrArg
	}
	end := rules[rule].Pattern.Longest(text, 0)
	return end == len(text), api.OK
}

// Lex cuts a text into tokens (P5).
func Lex(spec string, input string) ([]api.Token, api.Errno, int) {
	rules, err := readRules(spec, input)
	if err != api.OK {
		return nil, err, 0
	}
	return lexer.Cut(rules, input)
}

// readRules reads the rules of a specification that a text is to be held
// against. The text's length comes first: too long goes ahead of all other errors.
func readRules(spec string, text string) ([]sheet.Line, api.Errno) {
	if len(text) > api.MaxInput {
		return nil, api.ErrLong
	}
	lines, err, _ := sheet.Check(spec)
	if err != api.OK {
		return nil, err
	}
	return sheet.Rules(lines), api.OK
}

// Sets tells the sets of the heads (P6).
func Sets(spec string) ([]api.Set, api.Errno) {
	table, err := readTable(spec)
	if err != api.OK {
		return nil, err
	}
	return sets.Find(table), api.OK
}

// Clashes tells the clashes of the productions (P7).
func Clashes(spec string) ([]api.Clash, api.Errno) {
	table, err := readTable(spec)
	if err != api.OK {
		return nil, err
	}
	return sets.Clashes(table), api.OK
}

// readTable reads the productions of a specification.
func readTable(spec string) (prods.Table, api.Errno) {
	lines, err, _ := sheet.Check(spec)
	if err != api.OK {
		return prods.Table{}, err
	}
	return prods.Read(lines), api.OK
}

// Parse makes the tree of a string of kinds (P8).
func Parse(spec string, kinds []int) (api.Parsed, api.Errno) {
	if len(kinds) > api.MaxWord {
		return api.Parsed{}, api.ErrLong
	}
	table, err := readTable(spec)
	if err != api.OK {
		return api.Parsed{}, err
	}
	if !areRules(table, kinds) {
		return api.Parsed{}, api.ErrArg
	}
	if isClashing(table) {
		return api.Parsed{}, api.ErrClash
	}
	return trees.Grow(table, kinds)
}

func areRules(table prods.Table, kinds []int) bool {
	for _, kind := range kinds {
		if kind < 0 || kind >= table.Rules {
			return false
		}
	}
	return true
}

func isClashing(table prods.Table) bool {
	clashes := sets.Clashes(table)
	return len(clashes) > 0
}

// Run cuts a text into tokens and makes its tree (P9).
func Run(spec string, input string) (api.Outcome, api.Errno) {
	if len(input) > api.MaxInput {
		return api.Outcome{}, api.ErrLong
	}
	lines, err, _ := sheet.Check(spec)
	if err != api.OK {
		return api.Outcome{}, err
	}
	table := prods.Read(lines)
	if isClashing(table) {
		return api.Outcome{}, api.ErrClash
	}
	rules := sheet.Rules(lines)
	tokens, err, at := lexer.Cut(rules, input)
	if err != api.OK {
		return api.Outcome{At: at}, err
	}
	if len(tokens) > api.MaxWord {
		return api.Outcome{}, api.ErrLong
	}
	kinds := kindsOf(tokens)
	parsed, err := trees.Grow(table, kinds)
	if err != api.OK {
		place := placeOf(tokens, parsed.At, input)
		return api.Outcome{Wanted: parsed.Wanted, At: place}, err
	}
	return api.Outcome{Tokens: tokens, Nodes: parsed.Nodes}, api.OK
}

func kindsOf(tokens []api.Token) []int {
	var kinds []int
	for _, token := range tokens {
		kinds = append(kinds, token.Rule)
	}
	return kinds
}

// placeOf is where the token of a number begins, or behind the last one the input's end.
func placeOf(tokens []api.Token, number int, input string) int {
	if number < 0 || number >= len(tokens) {
		return len(input)
	}
	return tokens[number].From
}
