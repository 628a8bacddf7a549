package grammar_test

import (
	"fmt"
	"math/rand"
	"regexp"
	"strings"
	"testing"

	"grammar/api"
	"grammar/grammar"
)

// former says, fed byte by byte, whether a specification by its form can go
// on so. It goes from state to state and reads no byte twice, unlike the program.
type former struct {
	state formState
	count int  // letters of the word that is read
	low   int  // the low end of a range, or -1
	dash  bool // whether the end that is read is the high one
	open  int  // brackets
}

type formState int

const (
	lineStart formState = iota
	inName
	inHead
	behindColon
	symbolStart
	inSymbol
	wantAtom   // a piece must come
	behindAtom // a piece may come
	inMark
	setStart
	wantEnd  // an end must come
	behindHi // an end may come, or the ]
	behindLo // so may a -
	inSetMark
)

func small(b byte) bool   { return 'a' <= b && b <= 'z' }
func capital(b byte) bool { return 'A' <= b && b <= 'Z' }
func printed(b byte) bool { return ' ' <= b && b <= '~' }

func markByte(b byte) int {
	switch {
	case b == 'n':
		return 10
	case b == 't':
		return 9
	case !printed(b) || small(b) || capital(b) || '0' <= b && b <= '9':
		return -1
	}
	return int(b)
}

// feed tells whether the byte can stand.
func (f *former) feed(b byte) bool {
	switch f.state {
	case lineStart:
		f.count = 1
		f.state = inName
		if capital(b) {
			f.state = inHead
		}
		return small(b) || capital(b)
	case inName, inHead, inSymbol:
		if small(b) {
			f.count++
			return f.count <= 8
		}
		return f.endWord(b)
	case behindColon:
		return f.endWord(b)
	case symbolStart:
		f.count = 1
		f.state = inSymbol
		return small(b) || capital(b)
	}
	return f.feedPattern(b)
}

func (f *former) endWord(b byte) bool {
	switch {
	case f.state == inName && (b == '=' || b == '~'):
		f.state = wantAtom
		f.open = 0
	case f.state == inHead && b == ':':
		f.state = behindColon
	case (f.state == behindColon || f.state == inSymbol) && b == ' ':
		f.state = symbolStart
	case (f.state == behindColon || f.state == inSymbol) && b == '\n':
		f.state = lineStart
	default:
		return false
	}
	return true
}

func (f *former) feedPattern(b byte) bool {
	switch f.state {
	case wantAtom, behindAtom:
		return f.feedPiece(b)
	case inMark:
		f.state = behindAtom
		return markByte(b) >= 0
	case inSetMark:
		return f.end(markByte(b))
	case setStart:
		f.state = wantEnd
		if b == '^' {
			return true
		}
	case behindLo, behindHi:
		if b == ']' {
			f.state = behindAtom
			return true
		}
		if b == '-' {
			mayStand := f.state == behindLo
			f.dash = true
			f.state = wantEnd
			return mayStand
		}
	}
	switch {
	case b == '\\':
		f.state = inSetMark
		return true
	case b == ']' || b == '^' || b == '-' || !printed(b):
		return false
	}
	return f.end(int(b))
}

// end takes an end, the low or the high one.
func (f *former) end(c int) bool {
	if f.dash {
		f.dash = false
		f.state = behindHi
		return c >= f.low
	}
	f.low = c
	f.state = behindLo
	return c >= 0
}

func (f *former) feedPiece(b byte) bool {
	behind := f.state == behindAtom
	f.state = behindAtom
	switch b {
	case '(':
		f.open++
		f.state = wantAtom
		return f.open <= 6
	case ')':
		f.open--
		return behind && f.open >= 0
	case '|':
		f.state = wantAtom
		return behind
	case '*', '+', '?':
		return behind
	case '\\':
		f.state = inMark
	case '[':
		f.state = setStart
		f.dash = false
	case ']':
		return false
	case '\n':
		f.state = lineStart
		return behind && f.open == 0
	default:
		return printed(b)
	}
	return true
}

// formError is the place that goes with ErrForm, or -1 if the form is right.
func formError(spec string) int {
	f := &former{}
	for i := 0; i < len(spec); i++ {
		if !f.feed(spec[i]) {
			return i
		}
	}
	if f.state != lineStart {
		return len(spec)
	}
	return -1
}

func testForm(t *testing.T, spec string) {
	t.Helper()
	err, at := grammar.Check(spec)
	want := formError(spec)
	if len(spec) > api.MaxSpec || want < 0 {
		if err == api.ErrForm {
			t.Errorf("Check(%q) = %d, %d, but the form is right", spec, err, at)
		}
	} else if err != api.ErrForm || at != want {
		t.Errorf("Check(%q) = %d, %d, want ErrForm, %d", spec, err, at, want)
	}
}

func TestFormModel(t *testing.T) {
	r := rand.New(rand.NewSource(2))
	for i := 0; i < 60000; i++ {
		testForm(t, noise(r, r.Intn(12), specBytes))
		testForm(t, "a="+noise(r, r.Intn(12), specBytes[9:])+"\n")
		testForm(t, "a=["+noise(r, r.Intn(8), "a~z-^]\\nt .")+"\nS:\n")
		testForm(t, "a="+noise(r, r.Intn(30), "((((x)|*"))
		testForm(t, damaged(r, sums, specBytes))
	}
}

// A place that is named is right only if the bytes ahead of it can still become a specification.
func TestBytesAheadOfThePlaceCanStand(t *testing.T) {
	r := rand.New(rand.NewSource(3))
	for i := 0; i < 3000; i++ {
		spec := damaged(r, "a=([a-z\\n]|\\t(x[^b]?)+)*.\nSa: a Sa\n", specBytes)
		err, at := grammar.Check(spec)
		if err != api.ErrForm {
			continue
		}
		if !canBecomeRight(spec[:at]) {
			t.Errorf("Check(%q) names %d, but something ahead of it is wrong", spec, at)
		}
		for c := 0; c < 256 && at < len(spec); c += 5 {
			behind := spec[:at+1] + string([]byte{byte(c)}) + "]))\n"
			if err, again := grammar.Check(behind); err != api.ErrForm || again != at {
				t.Errorf("Check(%q) = %d, %d, want ErrForm, %d", behind, err, again, at)
			}
		}
	}
}

func canBecomeRight(begun string) bool {
	for _, middle := range []string{"", "A", ":", "=x", "x", "~]", "]", "!"} {
		for _, mid := range []string{"", "]"} {
			for open := 0; open <= api.MaxDepth; open++ {
				for _, end := range []string{"", "\n", ":\n"} {
					err, _ := grammar.Check(begun + middle + mid + strings.Repeat(")", open) + end)
					if err != api.ErrForm {
						return true
					}
				}
			}
		}
	}
	return false
}

// wild is a pattern, written for the program and for the library's regexp.
type wild struct {
	own, lib string
}

// wildEnds are ends of sets, and their bytes.
var wildEnds = []struct {
	own  string
	byte int
}{{"\\t", 9}, {"\\n", 10}, {" ", 32}, {"(", '('}, {"\\-", '-'}, {"\\]", ']'}, {"\\^", '^'}, {"a", 'a'}, {"b", 'b'}, {"c", 'c'}, {"~", '~'}}

func wildSet(r *rand.Rand) wild {
	w := wild{own: "[", lib: "["}
	if r.Intn(3) == 0 {
		w = wild{own: "[^", lib: "[^"}
	}
	for n := r.Intn(3); n >= 0; n-- {
		i := r.Intn(len(wildEnds))
		j := i + r.Intn(len(wildEnds)-i)
		if i == j {
			w.own += wildEnds[i].own
		} else {
			w.own += wildEnds[i].own + "-" + wildEnds[j].own
		}
		w.lib += fmt.Sprintf("\\x{%x}-\\x{%x}", wildEnds[i].byte, wildEnds[j].byte)
	}
	return wild{w.own + "]", w.lib + "]"}
}

func wildAtom(r *rand.Rand, depth int) wild {
	switch n := r.Intn(10); {
	case n < 3 && depth < 3:
		inner := wildChoice(r, depth+1)
		return wild{"(" + inner.own + ")", inner.lib}
	case n == 3:
		return wildSet(r)
	case n == 4:
		return wild{".", "[^\\n]"}
	case n == 5:
		return wild{"\\n", "\\n"}
	}
	letter := "abc"[r.Intn(3):][:1]
	return wild{letter, letter}
}

func wildPiece(r *rand.Rand, depth int) wild {
	w := wildAtom(r, depth)
	for r.Intn(5) < 2 {
		mark := "*+?"[r.Intn(3):][:1]
		w = wild{w.own + mark, "(?:" + w.lib + ")" + mark}
	}
	return w
}

// wildChoice puts brackets around all that it gives to the library, so that nothing hangs on what binds closer there.
func wildChoice(r *rand.Rand, depth int) wild {
	var own, lib []string
	for n := r.Intn(3); n >= 0; n-- {
		branch := wild{}
		for m := r.Intn(3); m >= 0; m-- {
			piece := wildPiece(r, depth)
			branch.own += piece.own
			branch.lib += "(?:" + piece.lib + ")"
		}
		own = append(own, branch.own)
		lib = append(lib, "(?:"+branch.lib+")")
	}
	return wild{strings.Join(own, "|"), "(?:" + strings.Join(lib, "|") + ")"}
}

// runes is a text with a rune for each byte, as the library wants it.
func runes(text string) string {
	var out []rune
	for i := 0; i < len(text); i++ {
		out = append(out, rune(text[i]))
	}
	return string(out)
}

// longestMatch is how many bytes at the beginning the library matches, or -1.
func longestMatch(lib *regexp.Regexp, text string) int {
	found := lib.FindStringIndex(runes(text))
	if found == nil {
		return -1
	}
	return len([]rune(runes(text)[:found[1]]))
}

func modelLex(rules []*regexp.Regexp, skipped []bool, input string) ([]api.Token, api.Errno, int) {
	var tokens []api.Token
	for at := 0; at < len(input); {
		rule, size := -1, 0
		for i, lib := range rules {
			if n := longestMatch(lib, input[at:]); n > size {
				rule, size = i, n
			}
		}
		if rule < 0 {
			return nil, api.ErrLex, at
		}
		if !skipped[rule] {
			tokens = append(tokens, api.Token{Rule: rule, From: at, To: at + size})
		}
		at += size
	}
	return tokens, api.OK, 0
}

// wildSpec is a specification of some rules, the rules as the library has
// them, and the place of the first that matches the empty text, or -1.
func wildSpec(r *rand.Rand) (spec string, rules []*regexp.Regexp, skipped []bool, firstEmpty int) {
	spec = "S:\n"
	firstEmpty = -1
	for i := r.Intn(4); i >= 0; i-- {
		w := wildChoice(r, 0)
		lib := regexp.MustCompile("^(?:" + w.lib + ")")
		lib.Longest()
		if firstEmpty < 0 && longestMatch(lib, "") == 0 {
			firstEmpty = len(spec)
		}
		sign := "=~"[r.Intn(2):][:1]
		spec += string(rune('a'+i)) + sign + w.own + "\n"
		rules = append(rules, lib)
		skipped = append(skipped, sign == "~")
	}
	return spec, rules, skipped, firstEmpty
}

func TestMatchAndLexModel(t *testing.T) {
	r := rand.New(rand.NewSource(4))
	for i := 0; i < 6000; i++ {
		spec, rules, skipped, firstEmpty := wildSpec(r)
		if len(spec) > api.MaxSpec {
			continue
		}
		err, at := grammar.Check(spec)
		if firstEmpty >= 0 {
			if err != api.ErrEmpty || at != firstEmpty {
				t.Errorf("Check(%q) = %d, %d, want ErrEmpty, %d", spec, err, at, firstEmpty)
			}
			continue
		}
		if err != api.OK || at != 0 {
			t.Fatalf("Check(%q) = %d, %d", spec, err, at)
		}
		for n := 0; n < 12; n++ {
			text := noise(r, r.Intn(10), "aaabbbcc\n-\xff")
			testWild(t, spec, rules, skipped, text)
		}
	}
}

func testWild(t *testing.T, spec string, rules []*regexp.Regexp, skipped []bool, text string) {
	t.Helper()
	for i, lib := range rules {
		want := longestMatch(lib, text) == len(text)
		if matches, err := grammar.Match(spec, i, text); matches != want || err != api.OK {
			t.Errorf("Match(%q, %d, %q) = %v, %d, want %v, 0", spec, i, text, matches, err, want)
		}
	}
	tokens, err, at := grammar.Lex(spec, text)
	wantTokens, wantErr, wantAt := modelLex(rules, skipped, text)
	if fmt.Sprint(tokens, err, at) != fmt.Sprint(wantTokens, wantErr, wantAt) {
		t.Errorf("Lex(%q, %q) = %v, %d, %d, want %v, %d, %d", spec, text, tokens, err, at, wantTokens, wantErr, wantAt)
	}
}
