// Package sheet: specifications: their form, and what else must hold for them.
package sheet

import (
	"grammar/api"
	"grammar/chars"
	"grammar/pattern"
)

// Word is a NAME or a HEAD: the place of its first byte, and its letters with
// zeros behind them. Two words are the same, if their Letters are equal.
type Word struct {
	At      int
	Letters [api.MaxName]byte
}

// IsHead tells whether the word is a HEAD.
func (w Word) IsHead() bool {
	return chars.IsCapital(int(w.Letters[0]))
}

// Line is a line of a specification. It begins where its Front, the first word, does.
type Line struct {
	Front   Word
	Skipped bool            // of a rule
	Pattern pattern.Pattern // of a rule
	Symbols []Word          // of a production
}

// IsRule tells whether the line is a rule; else it is a production.
func (l Line) IsRule() bool {
	return !l.Front.IsHead()
}

// Rules are the lines that are rules, in their order.
func Rules(lines []Line) []Line {
	var rules []Line
	for i := range lines {
		if lines[i].IsRule() {
			rules = append(rules, lines[i])
		}
	}
	return rules
}
