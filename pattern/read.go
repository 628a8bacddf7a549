package pattern

import (
	"grammar/api"
	"grammar/chars"
)

// Read reads the pattern that begins at a place of a text, as far as it goes,
// and answers the place behind it and true; or, if none can begin so, false
// and the place of the first byte that cannot stand where it stands (the
// text's length, if the text ends too early).
func Read(text string, at int) (Pattern, int, bool) {
	b := &builder{}
	whole, next, ok := b.readChoice(text, at, 0)
	if !ok {
		return Pattern{}, next, false
	}
	return Pattern{nodes: b.nodes, start: whole.start, end: whole.end}, next, true
}

// The functions below answer as Read does, a fragment in the pattern's place.
// depth is how many ( are open; it bounds how deep the calls go.

func (b *builder) readChoice(text string, at, depth int) (fragment, int, bool) {
	whole, next, ok := b.readBranch(text, at, depth)
	for ok && chars.At(text, next) == '|' {
		side, behind, fits := b.readBranch(text, next+1, depth)
		if fits {
			whole = b.either(whole, side)
		}
		next = behind
		ok = fits
	}
	return whole, next, ok
}

func (b *builder) readBranch(text string, at, depth int) (fragment, int, bool) {
	whole, next, ok := b.readPiece(text, at, depth)
	for ok && beginsAtom(text, next) {
		piece, behind, fits := b.readPiece(text, next, depth)
		if fits {
			whole = b.join(whole, piece)
		}
		next = behind
		ok = fits
	}
	return whole, next, ok
}

func (b *builder) readPiece(text string, at, depth int) (fragment, int, bool) {
	whole, next, ok := b.readAtom(text, at, depth)
	for ok {
		mark := chars.At(text, next)
		if mark != '*' && mark != '+' && mark != '?' {
			break
		}
		whole = b.repeat(whole, mark)
		next++
	}
	return whole, next, ok
}

func (b *builder) readAtom(text string, at, depth int) (fragment, int, bool) {
	if chars.At(text, at) == '(' {
		return b.readGroup(text, at, depth)
	}
	set, next, ok := readSet(text, at)
	if !ok {
		return fragment{}, next, false
	}
	return b.readOne(set), next, true
}

func (b *builder) readGroup(text string, at, depth int) (fragment, int, bool) {
	if depth >= api.MaxDepth {
		return fragment{}, at, false
	}
	inner, next, ok := b.readChoice(text, at+1, depth+1)
	if !ok {
		return fragment{}, next, false
	}
	if chars.At(text, next) != ')' {
		return fragment{}, next, false
	}
	return inner, next + 1, true
}

// beginsAtom tells whether the byte at a place can begin an atom. A ( counts
// even where too many are open: readGroup says that it cannot stand there.
func beginsAtom(text string, at int) bool {
	c := chars.At(text, at)
	return c == '(' || c == '.' || c == '[' || c == '\\' || isPlain(c)
}

// isPlain tells whether a byte stands for itself in a pattern.
func isPlain(c int) bool {
	switch c {
	case '\\', '[', ']', '(', ')', '|', '*', '+', '?', '.':
		return false
	}
	return chars.IsPrinted(c)
}
