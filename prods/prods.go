// Package prods: the productions of a specification, told by numbers.
package prods

import "grammar/sheet"

// Symbol is a head or, if it is none, a rule.
type Symbol struct {
	IsHead bool
	Number int
}

// Production is a production of a head.
type Production struct {
	Head    int
	Symbols []Symbol
}

// Table is the productions in their order, and how many rules and heads there
// are. The number of the rules is the END's number too.
type Table struct {
	Rules       int
	Heads       int
	Productions []Production
}

// Read makes the table of the lines of a specification that Check found right.
func Read(lines []sheet.Line) Table {
	names := frontsOfRules(lines)
	heads := frontsOfProductions(lines)
	var productions []Production
	for i := range lines {
		if lines[i].IsRule() {
			continue
		}
		production := readProduction(lines[i], names, heads)
		productions = append(productions, production)
	}
	return Table{Rules: len(names), Heads: len(heads), Productions: productions}
}

func frontsOfRules(lines []sheet.Line) []sheet.Word {
	var names []sheet.Word
	for i := range lines {
		if lines[i].IsRule() {
			names = append(names, lines[i].Front)
		}
	}
	return names
}

// frontsOfProductions are the heads: each only where it first begins a production.
func frontsOfProductions(lines []sheet.Line) []sheet.Word {
	var heads []sheet.Word
	for i := range lines {
		if lines[i].IsRule() {
			continue
		}
		number := findWord(heads, lines[i].Front)
		if number == len(heads) {
			heads = append(heads, lines[i].Front)
		}
	}
	return heads
}

func readProduction(line sheet.Line, names []sheet.Word, heads []sheet.Word) Production {
	head := findWord(heads, line.Front)
	var symbols []Symbol
	for _, word := range line.Symbols {
		symbol := Symbol{IsHead: word.IsHead()}
		if symbol.IsHead {
			symbol.Number = findWord(heads, word)
		} else {
			symbol.Number = findWord(names, word)
		}
		symbols = append(symbols, symbol)
	}
	return Production{Head: head, Symbols: symbols}
}

// findWord is the number of the first word that is the same, or how many words there are.
func findWord(words []sheet.Word, word sheet.Word) int {
	for i := range words {
		if words[i].Letters == word.Letters {
			return i
		}
	}
	return len(words)
}
