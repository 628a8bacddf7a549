package sheet

import "grammar/api"

// nowhere is the place of what was not found.
const nowhere = -1

// Check reads a specification. It answers its lines, OK and 0, or no lines,
// what is wrong with it and where: the first error in the order of the tests here.
func Check(spec string) ([]Line, api.Errno, int) {
	if len(spec) > api.MaxSpec {
		return nil, api.ErrLong, 0
	}
	lines, at, ok := readLines(spec)
	if !ok {
		return nil, api.ErrForm, at
	}
	at = findTooMany(lines)
	if at != nowhere {
		return nil, api.ErrMany, at
	}
	at = findWrongName(lines)
	if at != nowhere {
		return nil, api.ErrName, at
	}
	at = findEmptyMatch(lines)
	if at != nowhere {
		return nil, api.ErrEmpty, at
	}
	if !hasProduction(lines) {
		return nil, api.ErrNone, len(spec)
	}
	return lines, api.OK, 0
}

// findTooMany is the place of the first line that is more than a limit allows.
func findTooMany(lines []Line) int {
	rules := 0
	productions := 0
	heads := 0
	for i := range lines {
		line := lines[i]
		if line.IsRule() {
			rules++
		} else {
			productions++
			if !frontStandsAhead(lines, i) {
				heads++
			}
		}
		if rules > api.MaxRules || productions > api.MaxProds || heads > api.MaxHeads || len(line.Symbols) > api.MaxSyms {
			return line.Front.At
		}
	}
	return nowhere
}

// findWrongName is the place of the first name that is there twice, or is not what a symbol may be.
func findWrongName(lines []Line) int {
	for i := range lines {
		line := lines[i]
		if line.IsRule() && frontStandsAhead(lines, i) {
			return line.Front.At
		}
		for _, symbol := range line.Symbols {
			if !isSymbol(lines, symbol) {
				return symbol.At
			}
		}
	}
	return nowhere
}

// findEmptyMatch is the place of the first rule that matches the empty text.
func findEmptyMatch(lines []Line) int {
	for i := range lines {
		line := lines[i]
		if line.IsRule() && line.Pattern.Longest("", 0) == 0 {
			return line.Front.At
		}
	}
	return nowhere
}

func hasProduction(lines []Line) bool {
	for i := range lines {
		if !lines[i].IsRule() {
			return true
		}
	}
	return false
}

// frontStandsAhead tells whether a line ahead of the one of number i begins with the same word.
func frontStandsAhead(lines []Line, i int) bool {
	if i < 0 || i >= len(lines) {
		return false
	}
	first := findFront(lines, lines[i].Front)
	return first < i
}

// isSymbol tells whether a word may stand in a production: if a line begins
// with it, and the first such line is not a rule that is skipped.
func isSymbol(lines []Line, word Word) bool {
	first := findFront(lines, word)
	return first < len(lines) && !lines[first].Skipped
}

// findFront is the number of the first line that begins with the word, or how many lines there are.
func findFront(lines []Line, word Word) int {
	for i := range lines {
		if lines[i].Front.Letters == word.Letters {
			return i
		}
	}
	return len(lines)
}
