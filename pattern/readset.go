package pattern

import "grammar/chars"

// readSet reads an atom that matches one byte; it answers as Read does.
func readSet(text string, at int) (byteSet, int, bool) {
	c := chars.At(text, at)
	switch c {
	case '.':
		lineEnd := single('\n')
		return lineEnd.opposite(), at + 1, true
	case '[':
		return readBrackets(text, at+1)
	case '\\':
		mark, next, ok := readMark(text, at+1)
		return single(mark), next, ok
	}
	if !isPlain(c) {
		return byteSet{}, at, false
	}
	return single(c), at + 1, true
}

// readBrackets reads on behind a [.
func readBrackets(text string, at int) (byteSet, int, bool) {
	next := at
	opposite := chars.At(text, at) == '^'
	if opposite {
		next++
	}
	set, next, ok := readEnds(text, next)
	if opposite {
		set = set.opposite()
	}
	return set, next, ok
}

// readEnds reads one or more ends and ranges, and the ] behind them.
func readEnds(text string, at int) (byteSet, int, bool) {
	set := byteSet{}
	next := at
	for next == at || chars.At(text, next) != ']' {
		low, high, behind, ok := readRange(text, next)
		if !ok {
			return byteSet{}, behind, false
		}
		set = set.with(low, high)
		next = behind
	}
	return set, next + 1, true
}

// readRange reads END-END, or one END, which is then both the low and the high one.
func readRange(text string, at int) (int, int, int, bool) {
	low, next, ok := readEnd(text, at)
	if !ok {
		return 0, 0, next, false
	}
	if chars.At(text, next) != '-' {
		return low, low, next, true
	}
	high, behind, ok := readEnd(text, next+1)
	if !ok {
		return 0, 0, behind, false
	}
	if high < low {
		// A \ ahead of the mark may stand, since \~ is no less than any
		// end: it is the last byte that is wrong.
		return 0, 0, behind - 1, false
	}
	return low, high, behind, true
}

// readEnd reads one end and answers its byte.
func readEnd(text string, at int) (int, int, bool) {
	c := chars.At(text, at)
	switch c {
	case '\\':
		return readMark(text, at+1)
	case ']', '^', '-':
		return 0, at, false
	}
	if !chars.IsPrinted(c) {
		return 0, at, false
	}
	return c, at + 1, true
}

// readMark reads on behind a \ and answers the mark's byte.
func readMark(text string, at int) (int, int, bool) {
	c := chars.At(text, at)
	switch {
	case c == 'n':
		return '\n', at + 1, true
	case c == 't':
		return '\t', at + 1, true
	case !chars.IsPrinted(c) || chars.IsSmall(c) || chars.IsCapital(c) || chars.IsDigit(c):
		return 0, at, false
	}
	return c, at + 1, true
}
