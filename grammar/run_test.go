package grammar_test

import (
	"fmt"
	"math/rand"
	"slices"
	"strings"
	"testing"

	"grammar/api"
	"grammar/grammar"
)

// ranText is all that Run answers as one text; ahead of a tree stand the tokens.
func ranText(o api.Outcome, err api.Errno) string {
	out := ""
	for _, k := range o.Tokens {
		out += fmt.Sprintf("%d:%d-%d ", k.Rule, k.From, k.To)
	}
	return out + parsedText(api.Parsed{Nodes: o.Nodes, Wanted: o.Wanted, At: o.At}, err)
}

func testRun(t *testing.T, spec, input, want string) {
	t.Helper()
	if got := ranText(grammar.Run(spec, input)); got != want {
		t.Errorf("Run(%.150q, %.100q) = %s, want %s", spec, input, got, want)
	}
}

// stuck is the text of ErrLex at a place.
func stuck(at int) string { return fmt.Sprintf("error 9 at %d wanted", at) }

func TestRunExamples(t *testing.T) {
	testRun(t, sums, "(1", wrong(2, "1 3"))
	testRun(t, sums, "1 1", wrong(2, "1 5"))
	testRun(t, sums, "1 x", stuck(2))
}

func TestRunTrees(t *testing.T) {
	testRun(t, sums, "1", "0:0-1 p0(p3(0) p2())")
	testRun(t, sums, "007", "0:0-3 p0(p3(0) p2())")
	testRun(t, sums, "12 + 3", "0:0-2 1:3-4 0:5-6 p0(p3(0) p1(1 p3(0) p2()))")
	testRun(t, sums, "  (1)  ", "2:2-3 0:3-4 3:4-5 p0(p4(2 p0(p3(0) p2()) 3) p2())")
	testRun(t, "S:\n", "", "p0()")
	testRun(t, "a=a\nS: a\nS:\n", "", "p1()")
	testRun(t, "a=a\nx~x\nS:\n", "xxx", "p0()")
	testRun(t, "x~x\na=a\nS: a S\ny~y\nS:\n", "xayax", "1:1-2 1:3-4 p0(1 p0(1 p1()))")
	// The longest token has it, though a shorter one could be parsed.
	words := "if=if\nid=[a-z]+\nS: if S\nS: id\n"
	testRun(t, words, "iff", "1:0-3 p1(1)")
	testRun(t, words, "if", wrong(2, "0 1"))
	testRun(t, "a=a\nb=aa\nS: a a\n", "aa", wrong(0, "0"))
	testRun(t, "a=\\n\nb=[\x80-\xff]\nS: a\n", "\n", only(api.ErrForm))
	testRun(t, "a=\\n\nb=[^ -~]\nS: b a b\n", "\xff\n\x00", "1:0-1 0:1-2 1:2-3 p0(1 0 1)")
}

// The place is one in the input: tokens are long, and some are skipped.
func TestRunPlaces(t *testing.T) {
	testRun(t, sums, "", wrong(0, "0 2"))
	testRun(t, sums, "   ", wrong(3, "0 2"))
	testRun(t, sums, "1 +  ", wrong(5, "0 2"))
	testRun(t, sums, "100 +", wrong(5, "0 2"))
	testRun(t, sums, "  )1", wrong(2, "0 2"))
	testRun(t, sums, "100   200   ", wrong(6, "1 5"))
	testRun(t, sums, " 100+20 )", wrong(8, "1 5"))
	testRun(t, sums, "(100+20", wrong(7, "1 3"))
	testRun(t, sums, "(100+20 ", wrong(8, "1 3"))
	testRun(t, "aa=aa\nx~x\nS:\n", "xxaa", wrong(2, "2"))
	testRun(t, "aa=aa\nx~x\nS: aa T\nT: aa T\n", "xaaxaax", wrong(7, "0"))
	testRun(t, "aa=aa\nS: T aa\nT: T\n", "aa", wrong(0, ""))
	testRun(t, "aa=aa\nS: aa T\nT: T\n", "aa", wrong(2, ""))
	testRun(t, sums, "x", stuck(0))
	testRun(t, sums, "1 + 2-", stuck(5))
	// What cannot be cut is named ahead of what cannot be parsed, wherever it stands.
	testRun(t, sums, "1 1 x", stuck(4))
	testRun(t, sums, ")x", stuck(1))
	testRun(t, endless, "b", stuck(0))
}

func TestRunLimitOfTokens(t *testing.T) {
	row := "a=a\nx~x\nS: a S\nS:\n"
	as := func(n int) string { return strings.Repeat("a", n) }
	o, err := grammar.Run(row, as(api.MaxWord))
	if err != api.OK || len(o.Tokens) != api.MaxWord || len(o.Nodes) != 2*api.MaxWord+1 {
		t.Errorf("Run of %d tokens: %d, %d nodes, %d", api.MaxWord, len(o.Tokens), len(o.Nodes), err)
	}
	testRun(t, row, as(api.MaxWord+1), only(api.ErrLong))
	testRun(t, row, as(api.MaxInput), only(api.ErrLong))
	testRun(t, row, as(api.MaxWord+1)+"y", stuck(api.MaxWord+1))
	testRun(t, row, as(api.MaxInput-1)+"y", stuck(api.MaxInput-1))
	// Too many tokens are named ahead of one that is wrong.
	testRun(t, "a=a\nS:\n", as(api.MaxWord), wrong(0, "1"))
	testRun(t, "a=a\nS:\n", as(api.MaxWord+1), only(api.ErrLong))
	// Those that are skipped do not count.
	o, err = grammar.Run(row, strings.Repeat("xax", api.MaxWord))
	if err != api.OK || len(o.Tokens) != api.MaxWord || o.Tokens[59] != (api.Token{Rule: 0, From: 178, To: 179}) {
		t.Errorf("Run of %d tokens among others: %v, %d", api.MaxWord, o.Tokens, err)
	}
	testRun(t, row, strings.Repeat("xax", api.MaxWord)+"a", only(api.ErrLong))
	testRun(t, row, strings.Repeat("x", api.MaxInput), "p1()")
}

func TestRunLimitsOfLength(t *testing.T) {
	testRun(t, "a=a+\nS: a\n", strings.Repeat("a", api.MaxInput), "0:0-200 p0(0)")
	testRun(t, "a=a+\nS: a\n", strings.Repeat("a", api.MaxInput+1), only(api.ErrLong))
	testRun(t, "a=a+\nS: a\n", strings.Repeat("x", api.MaxInput), stuck(0))
	testRun(t, "a=a+\nS: a\n", strings.Repeat("x", api.MaxInput+1), only(api.ErrLong))
	testRun(t, "a=a+\nS: a\n", strings.Repeat("x", 1<<20), only(api.ErrLong))
	long := "a=a|" + strings.Repeat("x", api.MaxSpec-10) + "\nS: a\n"
	testRun(t, long, "a", "0:0-1 p0(0)")
	testRun(t, long[:4]+"x"+long[4:], "a", only(api.ErrLong))
}

func TestRunErrors(t *testing.T) {
	clashing := "a=a\nS: a S\nS: a\n"
	tooLong := strings.Repeat("?", api.MaxInput+1)
	for _, c := range wrongSpecs() {
		testRun(t, c.spec, "", only(c.err))
		testRun(t, c.spec, "1", only(c.err))
		testRun(t, c.spec, "?", only(c.err))
		testRun(t, c.spec, strings.Repeat("a", api.MaxInput), only(c.err))
		testRun(t, c.spec, tooLong, only(api.ErrLong))
	}
	testRun(t, clashing, tooLong, only(api.ErrLong))
	testRun(t, clashing, "?", only(api.ErrClash))
	testRun(t, clashing, "a", only(api.ErrClash))
	testRun(t, clashing, "", only(api.ErrClash))
	testRun(t, clashing, strings.Repeat("a", api.MaxWord+1), only(api.ErrClash))
	testRun(t, "a=a\nS: a\nT: a\nT: a\n", "?", only(api.ErrClash))
	testRun(t, "a=a\nS: a\nT:\nT:\n", "a", "0:0-1 p0(0)")
}

// ranByParts is what Run is to answer, by the answers of the other calls.
func ranByParts(spec, input string) (api.Outcome, api.Errno) {
	if len(input) > api.MaxInput {
		return api.Outcome{}, api.ErrLong
	}
	clashes, err := grammar.Clashes(spec)
	if err == api.OK && len(clashes) > 0 {
		err = api.ErrClash
	}
	if err != api.OK {
		return api.Outcome{}, err
	}
	tokens, err, at := grammar.Lex(spec, input)
	if err != api.OK {
		return api.Outcome{At: at}, err
	}
	var kinds []int
	places := []int{}
	for _, token := range tokens {
		kinds = append(kinds, token.Rule)
		places = append(places, token.From)
	}
	p, err := grammar.Parse(spec, kinds)
	if err != api.OK && err != api.ErrSyntax {
		return api.Outcome{}, err
	}
	if err == api.ErrSyntax {
		return api.Outcome{Wanted: p.Wanted, At: append(places, len(input))[p.At]}, err
	}
	return api.Outcome{Tokens: tokens, Nodes: p.Nodes}, err
}

func TestRunIsMadeOfItsParts(t *testing.T) {
	r := rand.New(rand.NewSource(9))
	counts := map[api.Errno]int{}
	for i := 0; i < 3000; i++ {
		spec := "aa=a+\nb=bb?\nc=c\nd=d\ng~ +\nS: T\nS: b\nS:\nT: aa U\nU: b T\nU: c U d\nU:\n"
		if i%4 == 0 {
			spec = sums
		}
		input := noise(r, r.Intn(8), "ab cd")
		if spec == sums {
			input = noise(r, r.Intn(8), "1+() ")
		}
		if i%7 == 0 {
			input = strings.Repeat("b"+noise(r, 1, "cbaab "), r.Intn(102)) + noise(r, 1, "abx ")
		}
		if i%3 == 0 {
			input = strings.Repeat(" aa bb", r.Intn(34)) + " a" + noise(r, r.Intn(3), "acd ")
		}
		if i%10 == 0 {
			spec = damaged(r, spec, specBytes)
		}
		if i%20 == 1 {
			spec += "S: T\n"
		}
		got := ranText(grammar.Run(spec, input))
		o, err := ranByParts(spec, input)
		if want := ranText(o, err); got != want {
			t.Fatalf("Run(%q, %q) = %s, want %s", spec, input, got, want)
		}
		counts[err]++
	}
	for _, err := range []api.Errno{api.OK, api.ErrLong, api.ErrForm, api.ErrName, api.ErrClash, api.ErrLex, api.ErrSyntax} {
		if counts[err] < 10 {
			t.Errorf("error %d came only %d times", err, counts[err])
		}
	}
}

func TestOutcomeIsFresh(t *testing.T) {
	for _, input := range []string{"", "1", "1+2", "((1))", "1 1", "(1", "1+", strings.Repeat("1+", 29) + "1"} {
		first, err := grammar.Run(sums, input)
		want := ranText(first, err)
		second, err := grammar.Run(sums, input)
		fill := func(o api.Outcome, with int) {
			overwrite(o.Nodes, o.Wanted, with)
			for i := range o.Tokens[:cap(o.Tokens)] {
				o.Tokens[:cap(o.Tokens)][i] = api.Token{Rule: with, From: with, To: with}
			}
		}
		fill(first, -7)
		if got := ranText(second, err); got != want {
			t.Errorf("Run(SUMS, %q) = %s where another answer was written into, want %s", input, got, want)
		}
		fill(second, -8)
		if !holds(first.Nodes, first.Wanted, -7) || slices.Contains(first.Tokens[:cap(first.Tokens)], api.Token{Rule: -8, From: -8, To: -8}) {
			t.Errorf("Run(SUMS, %q): two answers share room", input)
		}
		if got := ranText(grammar.Run(sums, input)); got != want {
			t.Errorf("Run(SUMS, %q) = %s behind others that were written into, want %s", input, got, want)
		}
	}
}
