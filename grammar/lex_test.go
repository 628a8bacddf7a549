package grammar_test

import (
	"slices"
	"strings"
	"testing"

	"grammar/api"
	"grammar/grammar"
)

// lexed is a call of Lex and what it is to answer, each token as Rule, From, To.
type lexed struct {
	spec, input string
	tokens      [][3]int
	err         api.Errno
	at          int
}

func testLex(t *testing.T, cases []lexed) {
	t.Helper()
	for _, c := range cases {
		tokens, err, at := grammar.Lex(c.spec, c.input)
		var got [][3]int
		for _, k := range tokens {
			got = append(got, [3]int{k.Rule, k.From, k.To})
		}
		if !slices.Equal(got, c.tokens) || err != c.err || at != c.at {
			t.Errorf("Lex(%.60q, %.60q) = %v, %d, %d, want %v, %d, %d", c.spec, c.input, got, err, at, c.tokens, c.err, c.at)
		}
	}
}

func TestLexExamples(t *testing.T) {
	words := "if=if\nid=[a-z]+\nS:\n"
	steps := "a=ab\nb=abcd\nc=c\nS:\n"
	testLex(t, []lexed{
		{sums, "12 + 3", [][3]int{{0, 0, 2}, {1, 3, 4}, {0, 5, 6}}, api.OK, 0},
		{sums, "1 -2", nil, api.ErrLex, 2},
		{words, "if", [][3]int{{0, 0, 2}}, api.OK, 0},
		{words, "iff", [][3]int{{1, 0, 3}}, api.OK, 0},
		{steps, "abc", [][3]int{{0, 0, 2}, {2, 2, 3}}, api.OK, 0},
		{steps, "abd", nil, api.ErrLex, 2},
	})
}

func TestLexLongest(t *testing.T) {
	testLex(t, []lexed{
		{"a=x\nb=xx\nc=xxx\nS:\n", "xxxxx", [][3]int{{2, 0, 3}, {1, 3, 5}}, api.OK, 0},
		{"c=xxx\nb=xx\na=x\nS:\n", "xxxxx", [][3]int{{0, 0, 3}, {1, 3, 5}}, api.OK, 0},
		{"a=x|xy|xyz\nS:\n", "xyzxyx", [][3]int{{0, 0, 3}, {0, 3, 5}, {0, 5, 6}}, api.OK, 0},
		{"a=x(yx)*\nb=y\nS:\n", "xyxyy", [][3]int{{0, 0, 3}, {1, 3, 4}, {1, 4, 5}}, api.OK, 0},
		{"a=x\nb=xyyyyyz\nc=y\nS:\n", "xyyyyy", [][3]int{{0, 0, 1}, {2, 1, 2}, {2, 2, 3}, {2, 3, 4}, {2, 4, 5}, {2, 5, 6}}, api.OK, 0},
		{"a=x+\nb=x+y\nS:\n", "xxxyxx", [][3]int{{1, 0, 4}, {0, 4, 6}}, api.OK, 0},
		// The longest is cut off even where a shorter one would let the rest be cut.
		{"a=ab?\nb=bc\nS:\n", "abc", nil, api.ErrLex, 2},
		{"a=a|abcd\nb=bc\nS:\n", "abc", [][3]int{{0, 0, 1}, {1, 1, 3}}, api.OK, 0},
		// A skipped rule's token counts as much as any other.
		{"a=x\nb~xx\nS:\n", "xxx", [][3]int{{0, 2, 3}}, api.OK, 0},
	})
}

func TestLexFirstRule(t *testing.T) {
	testLex(t, []lexed{
		{"a=x\nb=x\nS:\n", "xx", [][3]int{{0, 0, 1}, {0, 1, 2}}, api.OK, 0},
		{"a=[a-z]+\nb=if\nS:\n", "if", [][3]int{{0, 0, 2}}, api.OK, 0},
		{"b=if\na=[a-z]+\nS:\n", "if", [][3]int{{0, 0, 2}}, api.OK, 0},
		{"c=i\nb=if\na=[a-z]+\nd=if?\nS:\n", "if", [][3]int{{1, 0, 2}}, api.OK, 0},
		{"a=x\nb~x\nS:\n", "x", [][3]int{{0, 0, 1}}, api.OK, 0},
		{"b~x\na=x\nS:\n", "x", nil, api.OK, 0},
		{"S:\nb~x\nS: a\na=x|y\n", "xyx", [][3]int{{1, 1, 2}}, api.OK, 0},
	})
}

func TestLexSkipped(t *testing.T) {
	testLex(t, []lexed{
		{sums, "", nil, api.OK, 0},
		{sums, "     ", nil, api.OK, 0},
		{sums, "  (  ) ", [][3]int{{2, 2, 3}, {3, 5, 6}}, api.OK, 0},
		{"g~ \nh~#.*\\n\na=[^ #]\nS:\n", "x # y z\n #\nz", [][3]int{{2, 0, 1}, {2, 11, 12}}, api.OK, 0},
		{"g~.\nS:\n", "abc", nil, api.OK, 0},
		{"g~.\nS:\n", "ab\nc", nil, api.ErrLex, 2},
	})
}

func TestLexError(t *testing.T) {
	testLex(t, []lexed{
		{sums, "-", nil, api.ErrLex, 0}, {sums, "1-", nil, api.ErrLex, 1}, {sums, "1   -", nil, api.ErrLex, 4}, {sums, "1+2\n", nil, api.ErrLex, 3}, {sums, "1-2-3", nil, api.ErrLex, 1},
		{sums, "\x00", nil, api.ErrLex, 0}, {sums, "12\xff", nil, api.ErrLex, 2},
		{"S:\n", "", nil, api.OK, 0}, {"S:\n", "x", nil, api.ErrLex, 0},
		{"a=xyz\nS:\n", "xy", nil, api.ErrLex, 0}, {"a=xyz\nS:\n", "xyzxy", nil, api.ErrLex, 3}, {"a=xyz\nS:\n", "yz", nil, api.ErrLex, 0},
	})
}

func TestLexBytes(t *testing.T) {
	testLex(t, []lexed{
		{"a=.+\nb=\\n\nS:\n", "\x00\xff\n\xe9", [][3]int{{0, 0, 2}, {1, 2, 3}, {0, 3, 4}}, api.OK, 0},
		{"a=[^a]\nS:\n", "\n\x80", [][3]int{{0, 0, 1}, {0, 1, 2}}, api.OK, 0},
	})
}

func TestLexLength(t *testing.T) {
	var ones [][3]int
	for i := 0; i < api.MaxInput; i++ {
		ones = append(ones, [3]int{0, i, i + 1})
	}
	long := strings.Repeat("7", api.MaxInput+1)
	longSpec := strings.Repeat("S:\n", api.MaxSpec/3+1)
	testLex(t, []lexed{
		{sums, long[:api.MaxInput], [][3]int{{0, 0, api.MaxInput}}, api.OK, 0},
		{"a=7\nS:\n", long[:api.MaxInput], ones, api.OK, 0},
		{sums, long[:api.MaxInput-1] + "-", nil, api.ErrLex, api.MaxInput - 1},
		{sums, long, nil, api.ErrLong, 0},
		{sums, "-" + long, nil, api.ErrLong, 0},
		{sums, strings.Repeat("7", 1<<20), nil, api.ErrLong, 0},
		{longSpec, "", nil, api.ErrLong, 0},
		{longSpec, long, nil, api.ErrLong, 0},
	})
}

// Beside an error of Check the place is 0, wherever Check has found it.
func TestLexFirstError(t *testing.T) {
	long := strings.Repeat("x", api.MaxInput+1)
	testLex(t, []lexed{
		{"a=x\n?", long, nil, api.ErrLong, 0}, {"a=x\n", long, nil, api.ErrLong, 0},
		{"a=x\n?", "y", nil, api.ErrForm, 0}, {"a=x", "x", nil, api.ErrForm, 0},
		{"a=x\n" + strings.Repeat("S:\n", api.MaxProds+1), "xy", nil, api.ErrMany, 0},
		{"a=x\nS: b\n", "xy", nil, api.ErrName, 0}, {"a=x\na=x\nS:\n", "x", nil, api.ErrName, 0},
		{"a=x\nb=x*\nS:\n", "xy", nil, api.ErrEmpty, 0}, {"a=x\nb=x*\nS:\n", "", nil, api.ErrEmpty, 0},
		{"a=x\n", "xy", nil, api.ErrNone, 0}, {"a=x\n", "x", nil, api.ErrNone, 0},
	})
}
