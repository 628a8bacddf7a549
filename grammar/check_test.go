package grammar_test

import (
	"strings"
	"testing"

	"grammar/api"
	"grammar/grammar"
)

// sums is the specification SUMS of the document.
const sums = "num=[0-9]+\nplus=\\+\nopen=\\(\nclose=\\)\ngap~ +\nSum: Part Rest\nRest: plus Part Rest\nRest:\nPart: num\nPart: open Sum close\n"

// checked is a specification and what Check is to answer.
type checked struct {
	spec string
	err  api.Errno
	at   int
}

func testCheck(t *testing.T, cases []checked) {
	t.Helper()
	for _, c := range cases {
		err, at := grammar.Check(c.spec)
		if err != c.err || at != c.at {
			t.Errorf("Check(%.80q) = %d, %d, want %d, %d", c.spec, err, at, c.err, c.at)
		}
	}
}

// numbered is n lines, a letter from first on in the place of each %.
func numbered(line string, first byte, n int) string {
	var out strings.Builder
	for i := 0; i < n; i++ {
		out.WriteString(strings.ReplaceAll(line, "%", string(rune(first)+rune(i))))
	}
	return out.String()
}

func TestCheckExamples(t *testing.T) {
	testCheck(t, []checked{
		{sums, api.OK, 0},
		{"", api.ErrNone, 0},
		{"a=x", api.ErrForm, 3},
		{"a=(x\n", api.ErrForm, 4},
		{"a=x*\nS: a b\n", api.ErrName, 10},
		{"a=x*\nS: a\n", api.ErrEmpty, 0},
		{"a=[z-a]\n", api.ErrForm, 5},
	})
}

func TestCheckOK(t *testing.T) {
	testCheck(t, []checked{
		{"S:\n", api.OK, 0},
		{"S: S\n", api.OK, 0},
		{"S:\nS:\n", api.OK, 0},
		{"S: a T a\na=x\nT:\n", api.OK, 0},
		{"a~x\nS:\n", api.OK, 0},
		{"z=z\nZ: z Z\n", api.OK, 0},
		{"a=x\nab=y\nb=z\nS: ab a b\n", api.OK, 0},
		{"s=x\nS: s S\n", api.OK, 0},
	})
}

func TestCheckLength(t *testing.T) {
	fill := func(n int) string { return "a=" + strings.Repeat("x", n-6) + "\nS:\n" }
	testCheck(t, []checked{
		{fill(api.MaxSpec - 1), api.OK, 0},
		{fill(api.MaxSpec), api.OK, 0},
		{fill(api.MaxSpec + 1), api.ErrLong, 0},
		{strings.Repeat("!", api.MaxSpec), api.ErrForm, 0},
		{strings.Repeat("!", api.MaxSpec+1), api.ErrLong, 0},
		{strings.Repeat("S:\n", api.MaxSpec/3+1), api.ErrLong, 0},
		{strings.Repeat("a=x\n", 1<<20), api.ErrLong, 0},
	})
}

func TestCheckFormOfLines(t *testing.T) {
	testCheck(t, []checked{
		{"\n", api.ErrForm, 0}, {" ", api.ErrForm, 0}, {":", api.ErrForm, 0}, {"=x\n", api.ErrForm, 0}, {"~x\n", api.ErrForm, 0}, {"0=x\n", api.ErrForm, 0}, {"_=x\n", api.ErrForm, 0},
		{"`=x\n", api.ErrForm, 0}, {"{=x\n", api.ErrForm, 0}, {"@:\n", api.ErrForm, 0}, {"[:\n", api.ErrForm, 0}, {"\x00", api.ErrForm, 0}, {"\xe1=x\n", api.ErrForm, 0},
		{"S:\n\n", api.ErrForm, 3}, {"S:\n \n", api.ErrForm, 3}, {"a=x\n\nS:\n", api.ErrForm, 4}, {"S:\n?", api.ErrForm, 3},
		{"a", api.ErrForm, 1}, {"a\n", api.ErrForm, 1}, {"a =x\n", api.ErrForm, 1}, {"a:\n", api.ErrForm, 1}, {"aA=x\n", api.ErrForm, 1}, {"a1=x\n", api.ErrForm, 1}, {"ab", api.ErrForm, 2},
		{"S", api.ErrForm, 1}, {"S\n", api.ErrForm, 1}, {"S :\n", api.ErrForm, 1}, {"S=x\n", api.ErrForm, 1}, {"S~x\n", api.ErrForm, 1}, {"ST:\n", api.ErrForm, 1}, {"S1:\n", api.ErrForm, 1}, {"St", api.ErrForm, 2}, {"SaT:\n", api.ErrForm, 2},
		{"S:", api.ErrForm, 2}, {"S:a\n", api.ErrForm, 2}, {"S::\n", api.ErrForm, 2}, {"S:\t\n", api.ErrForm, 2}, {"S:\r\n", api.ErrForm, 2},
		{"S: ", api.ErrForm, 3}, {"S: \n", api.ErrForm, 3}, {"S:  a\n", api.ErrForm, 3}, {"S: 1\n", api.ErrForm, 3}, {"S: =\n", api.ErrForm, 3}, {"S: a", api.ErrForm, 4}, {"S: a=x\n", api.ErrForm, 4}, {"S: T:\n", api.ErrForm, 4}, {"S: a ", api.ErrForm, 5}, {"S: a \n", api.ErrForm, 5}, {"S: a,b\n", api.ErrForm, 4}, {"S: aB\n", api.ErrForm, 4}, {"S: TU\n", api.ErrForm, 4},
		{"a=", api.ErrForm, 2}, {"a~", api.ErrForm, 2}, {"a=\n", api.ErrForm, 2}, {"a~\n", api.ErrForm, 2}, {"a=x", api.ErrForm, 3}, {"a~x", api.ErrForm, 3},
		{"S:\na=x\nT: a", api.ErrForm, 11},
	})
}

func TestCheckFormOfNames(t *testing.T) {
	name := "abcdefgh"
	head := "Abcdefgh"
	testCheck(t, []checked{
		{name + "=x\n" + head + ": " + name + " " + head + "\n", api.OK, 0},
		{name + "~x\n" + head + ":\n", api.OK, 0},
		{name, api.ErrForm, 8}, {head, api.ErrForm, 8},
		{name + "i=x\n", api.ErrForm, 8},
		{head + "i:\n", api.ErrForm, 8},
		{"S: " + name + "i\n", api.ErrForm, 11},
		{"S: " + head + "i\n", api.ErrForm, 11},
		{"S: " + name + "I\n", api.ErrForm, 11},
	})
}

func TestCheckFormOfPatterns(t *testing.T) {
	testCheck(t, []checked{
		{"a=*\n", api.ErrForm, 2}, {"a=+\n", api.ErrForm, 2}, {"a=?\n", api.ErrForm, 2}, {"a=|\n", api.ErrForm, 2}, {"a=|x\n", api.ErrForm, 2}, {"a=)\n", api.ErrForm, 2}, {"a=]\n", api.ErrForm, 2},
		{"a=x)\n", api.ErrForm, 3}, {"a=x]\n", api.ErrForm, 3}, {"a=(x))\n", api.ErrForm, 5},
		{"a=x|", api.ErrForm, 4}, {"a=x|\n", api.ErrForm, 4}, {"a=x||y\n", api.ErrForm, 4}, {"a=x|*\n", api.ErrForm, 4}, {"a=x|)\n", api.ErrForm, 4},
		{"a=(", api.ErrForm, 3}, {"a=(\n", api.ErrForm, 3}, {"a=()\n", api.ErrForm, 3}, {"a=(|x)\n", api.ErrForm, 3}, {"a=(*)\n", api.ErrForm, 3}, {"a=(x", api.ErrForm, 4}, {"a=(x\n", api.ErrForm, 4}, {"a=(x|)\n", api.ErrForm, 5}, {"a=((x)\n", api.ErrForm, 6}, {"a=(x]\n", api.ErrForm, 4},
		{"a=\t\n", api.ErrForm, 2}, {"a=\x1f\n", api.ErrForm, 2}, {"a=\x7f\n", api.ErrForm, 2}, {"a=\x80\n", api.ErrForm, 2}, {"a=x\xff\n", api.ErrForm, 3}, {"a=x\x00\n", api.ErrForm, 3}, {"a=x\r\n", api.ErrForm, 3}, {"a=(x\t)\n", api.ErrForm, 4},
		{"a= \nS:\n", api.OK, 0}, {"a=~\nS:\n", api.OK, 0}, {"a=!\"#$%&',-/09:;<=>@AZ^_`az{}~\nS:\n", api.OK, 0},
		{"a=x*+?*+?y\nS:\n", api.OK, 0}, {"a=(x)*(y)+(z)?.\nS:\n", api.OK, 0}, {"a=x|y|z\nS:\n", api.OK, 0}, {"a=.\nS:\n", api.OK, 0}, {"a=x*|*\n", api.ErrForm, 5},
	})
}

func TestCheckFormOfMarks(t *testing.T) {
	testCheck(t, []checked{
		{"a=\\", api.ErrForm, 3}, {"a=\\\n", api.ErrForm, 3}, {"a=\\\t\n", api.ErrForm, 3}, {"a=\\\x7f\n", api.ErrForm, 3}, {"a=\\\x80\n", api.ErrForm, 3}, {"a=\\\x1f\n", api.ErrForm, 3},
		{"a=[\\", api.ErrForm, 4}, {"a=[\\]\n", api.ErrForm, 5}, {"a=[a-\\", api.ErrForm, 6}, {"a=[\\a]\n", api.ErrForm, 4}, {"a=[a-\\z]\n", api.ErrForm, 6},
	})
	for c := 0; c < 256; c++ {
		b := string([]byte{byte(c)})
		letterOrDigit := c >= 'a' && c <= 'z' || c >= 'A' && c <= 'Z' || c >= '0' && c <= '9'
		if c == 'n' || c == 't' || c >= 32 && c <= 126 && !letterOrDigit {
			testCheck(t, []checked{{"a=\\" + b + "\nS:\n", api.OK, 0}, {"a=[\\" + b + "]\nS:\n", api.OK, 0}})
		} else {
			testCheck(t, []checked{{"a=\\" + b + "\nS:\n", api.ErrForm, 3}, {"a=[\\" + b + "]\nS:\n", api.ErrForm, 4}})
		}
	}
}

func TestCheckFormOfBytes(t *testing.T) {
	for c := 0; c < 256; c++ {
		b := string([]byte{byte(c)})
		printed := c >= 32 && c <= 126
		// Behind x, so that * + ? can stand, and | ( [ \ with what they need behind them.
		spec := "a=x" + b + "y\nS:\n"
		switch {
		case c == '\n':
			testCheck(t, []checked{{spec, api.ErrForm, 5}})
		case c == '(':
			testCheck(t, []checked{{spec, api.ErrForm, 5}})
		case c == '[':
			testCheck(t, []checked{{spec, api.ErrForm, 5}})
		case c == '\\':
			testCheck(t, []checked{{spec, api.ErrForm, 4}})
		case printed && c != ']' && c != ')':
			testCheck(t, []checked{{spec, api.OK, 0}})
		default:
			testCheck(t, []checked{{spec, api.ErrForm, 3}})
		}
		spec = "a=[x" + b + "]\nS:\n"
		switch {
		case c == '\\':
			testCheck(t, []checked{{spec, api.ErrForm, 6}})
		case c == '-':
			testCheck(t, []checked{{spec, api.ErrForm, 5}})
		case c == ']':
			testCheck(t, []checked{{spec, api.ErrForm, 5}})
		case printed && c != '^':
			testCheck(t, []checked{{spec, api.OK, 0}})
		default:
			testCheck(t, []checked{{spec, api.ErrForm, 4}})
		}
	}
}

func TestCheckFormOfBrackets(t *testing.T) {
	testCheck(t, []checked{
		{"a=[", api.ErrForm, 3}, {"a=[\n", api.ErrForm, 3}, {"a=[]\n", api.ErrForm, 3}, {"a=[-]\n", api.ErrForm, 3}, {"a=[-a]\n", api.ErrForm, 3},
		{"a=[^", api.ErrForm, 4}, {"a=[^]\n", api.ErrForm, 4}, {"a=[^^]\n", api.ErrForm, 4}, {"a=[^-a]\n", api.ErrForm, 4},
		{"a=[a", api.ErrForm, 4}, {"a=[a\n", api.ErrForm, 4}, {"a=[a^]\n", api.ErrForm, 4}, {"a=[a\t]\n", api.ErrForm, 4}, {"a=[a\x80]\n", api.ErrForm, 4}, {"a=[a]]\n", api.ErrForm, 5},
		{"a=[a-", api.ErrForm, 5}, {"a=[a-]\n", api.ErrForm, 5}, {"a=[a-^]\n", api.ErrForm, 5}, {"a=[a--]\n", api.ErrForm, 5}, {"a=[a-\n", api.ErrForm, 5}, {"a=[a-b", api.ErrForm, 6}, {"a=[a-b-c]\n", api.ErrForm, 6}, {"a=[a-bc-]\n", api.ErrForm, 8},
		{"a=[b-a]\n", api.ErrForm, 5}, {"a=[b-\\~]\nS:\n", api.OK, 0}, {"a=[b-\\-]\n", api.ErrForm, 6}, {"a=[\\~-}]\n", api.ErrForm, 6}, {"a=[~-\\}]\n", api.ErrForm, 6}, {"a=[ -\\n]\n", api.ErrForm, 6}, {"a=[\\n-\\t]\n", api.ErrForm, 7},
		{"a=[a-a]\nS:\n", api.OK, 0}, {"a=[\\t-\\n]\nS:\n", api.OK, 0}, {"a=[\\t-a]\nS:\n", api.OK, 0}, {"a=[ -~]\nS:\n", api.OK, 0}, {"a=[a-b^]\n", api.ErrForm, 6}, {"a=[\\^-\\^]\nS:\n", api.OK, 0},
		{"a=[^a]\nS:\n", api.OK, 0}, {"a=[^a-z0-9]\nS:\n", api.OK, 0}, {"a=[[(|)*+?.{]\nS:\n", api.OK, 0}, {"a=[\\]\\^\\-\\\\]\nS:\n", api.OK, 0},
	})
}

func TestCheckDepth(t *testing.T) {
	nested := func(n int) string { return strings.Repeat("(", n) + "x" + strings.Repeat(")", n) }
	testCheck(t, []checked{
		{"a=" + nested(api.MaxDepth) + "\nS:\n", api.OK, 0},
		{"a=" + nested(api.MaxDepth+1) + "\nS:\n", api.ErrForm, 2 + api.MaxDepth},
		{"a=" + strings.Repeat("(", api.MaxDepth+1), api.ErrForm, 2 + api.MaxDepth},
		{"a=" + strings.Repeat("(", api.MaxDepth), api.ErrForm, 2 + api.MaxDepth},
		{"a=" + strings.Repeat("(", api.MaxDepth) + "x(y\n", api.ErrForm, 3 + api.MaxDepth},
		{"a=" + strings.Repeat(nested(api.MaxDepth), 3) + "|" + nested(api.MaxDepth) + "\nS:\n", api.OK, 0},
		{"a=" + nested(api.MaxDepth) + "\nb=" + nested(api.MaxDepth) + "\nS:\n", api.OK, 0},
		{"a=" + strings.Repeat("\\(", 20) + "[((((((((]\nS:\n", api.OK, 0},
		{"a=(" + strings.Repeat("(x)", 20) + ")\nS:\n", api.OK, 0},
	})
}

func TestCheckMany(t *testing.T) {
	rules := func(n int) string { return numbered("%=x\n", 'a', n) }
	heads := func(n int) string { return numbered("%:\n", 'A', n) }
	testCheck(t, []checked{
		{rules(api.MaxRules) + "S:\n", api.OK, 0},
		{rules(api.MaxRules+1) + "S:\n", api.ErrMany, 4 * api.MaxRules},
		{rules(api.MaxRules+2) + "S:\n", api.ErrMany, 4 * api.MaxRules},
		{numbered("%~x\n", 'a', api.MaxRules+1) + "S:\n", api.ErrMany, 4 * api.MaxRules},
		{rules(api.MaxRules-1) + "z~x\nS:\n", api.OK, 0},
		{rules(api.MaxRules) + "z~x\nS:\n", api.ErrMany, 4 * api.MaxRules},
		{strings.Repeat("a=x\n", api.MaxRules+1), api.ErrMany, 4 * api.MaxRules},
		{"S:\n" + rules(api.MaxRules) + "S:\nz=x\n", api.ErrMany, 3 + 4*api.MaxRules + 3},
		{strings.Repeat("S:\n", api.MaxProds), api.OK, 0},
		{strings.Repeat("S:\n", api.MaxProds+1), api.ErrMany, 3 * api.MaxProds},
		{strings.Repeat("S:\n", api.MaxProds) + "a=x\nS:\n", api.ErrMany, 3*api.MaxProds + 4},
		{strings.Repeat("S:\n", api.MaxProds) + rules(api.MaxRules), api.OK, 0},
		{heads(api.MaxHeads), api.OK, 0},
		{heads(api.MaxHeads + 1), api.ErrMany, 3 * api.MaxHeads},
		{heads(api.MaxHeads) + heads(api.MaxHeads), api.OK, 0},
		{heads(api.MaxHeads) + "A:\nZ:\n", api.ErrMany, 3*api.MaxHeads + 3},
		{"a=x\nS:" + strings.Repeat(" a", api.MaxSyms) + "\n", api.OK, 0},
		{"a=x\nS:" + strings.Repeat(" a", api.MaxSyms+1) + "\n", api.ErrMany, 4},
		{"S:" + strings.Repeat(" S", api.MaxSyms+1) + "\n", api.ErrMany, 0},
		{"S:" + strings.Repeat(" S", api.MaxSyms) + "\nS:" + strings.Repeat(" S", api.MaxSyms) + "\n", api.OK, 0},
		{"S:\nS:" + strings.Repeat(" S", api.MaxSyms+1) + "\n" + rules(api.MaxRules+1), api.ErrMany, 3},
		{rules(api.MaxRules+1) + "S:" + strings.Repeat(" S", api.MaxSyms+1) + "\n", api.ErrMany, 4 * api.MaxRules},
		{heads(api.MaxHeads+1) + rules(api.MaxRules+1), api.ErrMany, 3 * api.MaxHeads},
		{rules(api.MaxRules+1) + heads(api.MaxHeads+1), api.ErrMany, 4 * api.MaxRules},
	})
}

func TestCheckName(t *testing.T) {
	testCheck(t, []checked{
		{"a=x\na=y\nS:\n", api.ErrName, 4}, {"a=x\na~y\nS:\n", api.ErrName, 4}, {"a~x\na=y\nS:\n", api.ErrName, 4}, {"a~x\na~y\nS:\n", api.ErrName, 4}, {"a=x\nb=x\na=x\nb=x\nS:\n", api.ErrName, 8}, {"S:\na=x\nS:\na=x\n", api.ErrName, 10},
		{"abcdefgh=x\nabcdefg=x\nabcdefgi=x\nS:\n", api.OK, 0}, {"abcdefgh=x\nabcdefgh=x\nS:\n", api.ErrName, 11},
		{"S: a\n", api.ErrName, 3}, {"a=x\nS: b\n", api.ErrName, 7}, {"a=x\nS: aa\n", api.ErrName, 7}, {"aa=x\nS: a\n", api.ErrName, 8}, {"a=x\nS: a a b a c\n", api.ErrName, 11},
		{"a~x\nS: a\n", api.ErrName, 7}, {"S: a\na~x\n", api.ErrName, 3}, {"a=x\nb~y\nS: a b\n", api.ErrName, 13},
		{"S: T\n", api.ErrName, 3}, {"S: S T\n", api.ErrName, 5}, {"S: Sa\n", api.ErrName, 3}, {"Sa: S\n", api.ErrName, 4}, {"t=x\nS: T\n", api.ErrName, 7}, {"T:\nS: t\n", api.ErrName, 6},
		{"S: T\nT: U\n", api.ErrName, 8}, {"S: T a\nT: U\n", api.ErrName, 5},
	})
}

// What is wrong first is told by its place alone, whatever kind of name it is.
func TestCheckFirstName(t *testing.T) {
	testCheck(t, []checked{
		{"S: a T\n", api.ErrName, 3}, {"S: T a\n", api.ErrName, 3}, {"S: T\na=x\na=y\n", api.ErrName, 3}, {"a=x\na=y\nS: T\n", api.ErrName, 4}, {"a=x\nS: b\na=y\n", api.ErrName, 7}, {"a=x\nS: a\na=y\nS: b\n", api.ErrName, 9},
		{"S: a\na~x\na=y\n", api.ErrName, 3}, {"S: a\na=x\na~y\n", api.ErrName, 9},
	})
}

func TestCheckEmpty(t *testing.T) {
	for _, pattern := range []string{"x*", "x?", "x*y*", "x|y*", "x?|y", "(x*)", "(x?)+", "(x|y?)z*", "x+?", "x?+", "x+*", "(x*y?)+", ".*", "[a-z]?", "(x|(y|(z)*))", "\\n*", "[^a]*", "((((((x))))))?"} {
		testCheck(t, []checked{
			{"a=" + pattern + "\nS:\n", api.ErrEmpty, 0},
			{"S:\nb=y\na~" + pattern + "\nc=z*\n", api.ErrEmpty, 7},
		})
	}
	for _, pattern := range []string{"x", "x+", "x*y", "xy*", "x|y", "(x)", "(x|y)+", "x++", "x?y?z", "(x*y)+", ".", "[a-z]+", "\\*", "\\?", "[*?]", "(x?y)+z*"} {
		testCheck(t, []checked{{"a=" + pattern + "\nS:\n", api.OK, 0}})
	}
}

func TestCheckNone(t *testing.T) {
	testCheck(t, []checked{
		{"", api.ErrNone, 0}, {"a=x\n", api.ErrNone, 4}, {"a=x\nb~y\n", api.ErrNone, 8}, {numbered("%=x\n", 'a', api.MaxRules), api.ErrNone, 4 * api.MaxRules},
	})
}

// Each specification has the fault it is answered with and ones that are named later.
func TestCheckFirstError(t *testing.T) {
	tooMany := strings.Repeat("S:\n", api.MaxProds+1)
	many := len(tooMany) - 3
	testCheck(t, []checked{
		{"?" + strings.Repeat("S: b\n", api.MaxSpec/5), api.ErrLong, 0},
		{"a=x*\n" + tooMany + "S: b\n?", api.ErrForm, 5 + len(tooMany) + 5},
		{"a=x*\nS: b\nS: S S S S S S S\nS:", api.ErrForm, 29},
		{"a=x*\nS: b\n" + tooMany, api.ErrMany, 10 + many - 3},
		{"a=x*\na=x*\n" + tooMany, api.ErrMany, 10 + many},
		{"a=x*\nS: b\n", api.ErrName, 8},
		{"a=x*\na=x\n", api.ErrName, 5},
		{"a=x*\n", api.ErrEmpty, 0},
		{"b=x\na=x*\n", api.ErrEmpty, 4},
		{numbered("%=x*\n", 'a', api.MaxRules+1), api.ErrMany, 5 * api.MaxRules},
	})
}
