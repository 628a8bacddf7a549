package sheet

import (
	"grammar/api"
	"grammar/chars"
	"grammar/pattern"
)

// readLines reads a specification by its form. The functions here answer what
// they read, the place behind it and true; or false and the place of the first
// byte that cannot stand where it stands (the specification's length, if it
// ends too early).
func readLines(spec string) ([]Line, int, bool) {
	var lines []Line
	at := 0
	for at < len(spec) {
		line, next, ok := readLine(spec, at)
		if !ok {
			return nil, next, false
		}
		lines = append(lines, line)
		at = next
	}
	return lines, at, true
}

func readLine(spec string, at int) (Line, int, bool) {
	front, next, ok := readWord(spec, at)
	if !ok {
		return Line{}, next, false
	}
	if front.IsHead() {
		return readProduction(spec, next, front)
	}
	return readRule(spec, next, front)
}

// readRule reads on behind the NAME of a rule.
func readRule(spec string, at int, front Word) (Line, int, bool) {
	sign := chars.At(spec, at)
	if sign != '=' && sign != '~' {
		return Line{}, at, false
	}
	rule, next, ok := pattern.Read(spec, at+1)
	if !ok {
		return Line{}, next, false
	}
	if chars.At(spec, next) != '\n' {
		return Line{}, next, false
	}
	return Line{Front: front, Skipped: sign == '~', Pattern: rule}, next + 1, true
}

// readProduction reads on behind the HEAD of a production.
func readProduction(spec string, at int, front Word) (Line, int, bool) {
	if chars.At(spec, at) != ':' {
		return Line{}, at, false
	}
	var symbols []Word
	next := at + 1
	for chars.At(spec, next) == ' ' {
		symbol, behind, ok := readWord(spec, next+1)
		if !ok {
			return Line{}, behind, false
		}
		symbols = append(symbols, symbol)
		next = behind
	}
	if chars.At(spec, next) != '\n' {
		return Line{}, next, false
	}
	return Line{Front: front, Symbols: symbols}, next + 1, true
}

// readWord reads a NAME or a HEAD. It stops behind MaxName letters: a letter
// too many is then for the caller to find, who wants something else there.
func readWord(spec string, at int) (Word, int, bool) {
	word := Word{At: at}
	c := chars.At(spec, at)
	if !chars.IsSmall(c) && !chars.IsCapital(c) {
		return Word{}, at, false
	}
	word.Letters[0] = byte(c)
	for n := 1; n < api.MaxName; n++ {
		c = chars.At(spec, at+n)
		if !chars.IsSmall(c) {
			return word, at + n, true
		}
		word.Letters[n] = byte(c)
	}
	return word, at + api.MaxName, true
}
