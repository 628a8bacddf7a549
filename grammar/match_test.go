package grammar_test

import (
	"math"
	"strings"
	"testing"

	"grammar/api"
	"grammar/grammar"
)

// testPattern holds a pattern, as the middle one of three rules, against texts that it matches and texts that it does not.
func testPattern(t *testing.T, pattern string, yes, no []string) {
	t.Helper()
	spec := "y=never\na=" + pattern + "\nz~neither\nS:\n"
	for _, text := range yes {
		if matches, err := grammar.Match(spec, 1, text); !matches || err != api.OK {
			t.Errorf("%q on %.60q: %v, %d, want true, 0", pattern, text, matches, err)
		}
	}
	for _, text := range no {
		if matches, err := grammar.Match(spec, 1, text); matches || err != api.OK {
			t.Errorf("%q on %.60q: %v, %d, want false, 0", pattern, text, matches, err)
		}
	}
}

func TestMatchPatterns(t *testing.T) {
	for _, c := range []struct {
		pattern string
		yes, no []string
	}{
		{"x", []string{"x"}, []string{"", "y", "xx", "X", "x\n"}},
		{"abc", []string{"abc"}, []string{"", "a", "ab", "abcd", "bc", "xabc", "acb"}},
		{"a|b", []string{"a", "b"}, []string{"", "ab", "|", "c"}},
		{"ab|cd|e", []string{"ab", "cd", "e"}, []string{"abd", "acd", "abe", "a", "abcd"}},
		{"ab*", []string{"a", "ab", "abbbb"}, []string{"", "b", "abab", "a*"}},
		{"ab+", []string{"ab", "abbbb"}, []string{"", "a", "abab", "a+"}},
		{"ab?", []string{"a", "ab"}, []string{"", "abb", "b", "a?"}},
		{"(ab)*c", []string{"c", "abc", "ababc"}, []string{"", "ac", "abac", "abab"}},
		{"(ab)+", []string{"ab", "ababab"}, []string{"", "aab", "abb", "aba"}},
		{"(ab)?c", []string{"c", "abc"}, []string{"ac", "bc", "ababc"}},
		{"a(b|c)d", []string{"abd", "acd"}, []string{"ab", "cd", "abcd", "ad"}},
		{"ab|c*d", []string{"ab", "d", "cccd"}, []string{"abd", "ac", "c"}},
		{"(a|ab)(bc|c)", []string{"abc", "ac", "abbc"}, []string{"ab", "abcc", "bc"}},
		{"(a*)*b", []string{"b", "aaab"}, []string{"a", "ba", ""}},
		{"(a*b*)*c", []string{"c", "abbac", "bac"}, []string{"", "ab", "cc"}},
		{"(a|b)*abb", []string{"abb", "aabb", "babbabb"}, []string{"ab", "abba", "bb"}},
		{"xa**", []string{"x", "xa", "xaa"}, []string{"", "a", "xx"}},
		{"xa++", []string{"xa", "xaaa"}, []string{"x", "a"}},
		{"xa??", []string{"x", "xa"}, []string{"xaa", "a"}},
		{"xa+?", []string{"x", "xa", "xaa"}, []string{"", "aa"}},
		{"xa?+", []string{"x", "xa", "xaa"}, []string{"", "aa"}},
		{"xa*+?y", []string{"xy", "xay", "xaaay"}, []string{"x", "xa", "y"}},
		{"(a(b(c(d(e(f))))))", []string{"abcdef"}, []string{"abcde", "a", ""}},
		{"(a(b(c)?)?)", []string{"a", "ab", "abc"}, []string{"ac", "", "bc"}},
		{"(aa|aaa)+", []string{"aa", "aaa", "aaaa", "aaaaaaa"}, []string{"", "a"}},
		{"(aaa)+|(aa)+", []string{"aa", "aaa", "aaaa", "aaaaaa", "aaaaaaaaa"}, []string{"a", "aaaaa", "aaaaaaa"}},
		{" ", []string{" "}, []string{"", "  ", "\t"}},
		{"a-z", []string{"a-z"}, []string{"b", "az", "a"}},
		{"^a^", []string{"^a^"}, []string{"a", "b"}},
		{"a$", []string{"a$"}, []string{"a"}},
		{"x{2}", []string{"x{2}"}, []string{"xx"}},
	} {
		testPattern(t, c.pattern, c.yes, c.no)
	}
}

// setOf is the bytes that are matched alone by a pattern.
func setOf(t *testing.T, pattern string) string {
	t.Helper()
	spec := "a=" + pattern + "\nS:\n"
	var out []byte
	for c := 0; c < 256; c++ {
		matches, err := grammar.Match(spec, 0, string([]byte{byte(c)}))
		if err != api.OK {
			t.Fatalf("%q: %d", pattern, err)
		}
		if matches {
			out = append(out, byte(c))
		}
	}
	return string(out)
}

// span is the bytes from low to high.
func span(low, high int) string {
	var out []byte
	for c := low; c <= high; c++ {
		out = append(out, byte(c))
	}
	return string(out)
}

func TestMatchSets(t *testing.T) {
	for _, c := range []struct{ pattern, set string }{
		{".", span(0, 9) + span(11, 255)},
		{"[a-c]", "abc"}, {"[abc]", "abc"}, {"[cba]", "abc"}, {"[a-cb-d]", "abcd"}, {"[a-a]", "a"}, {"[a]", "a"}, {"[aa]", "a"}, {"[z0-2a]", "012az"},
		{"[^a-c]", span(0, 'a'-1) + span('d', 255)}, {"[^a]", span(0, 'a'-1) + span('b', 255)}, {"[^\\n]", span(0, 9) + span(11, 255)}, {"[^ -~]", span(0, 31) + span(127, 255)}, {"[^\\^]", span(0, '^'-1) + span('^'+1, 255)},
		{"[ -~]", span(32, 126)}, {"[\\t-\\n]", "\t\n"}, {"[\\n-a]", span(10, 'a')}, {"[\\n\\t]", "\t\n"}, {"[+-\\-]", "+,-"}, {"[?-@]", "?@"}, {"[ -?@-_]", span(32, '_')},
		{"[\\]\\^\\-\\\\]", "-\\]^"}, {"[.*+?()|[]", "()*+.?[|"}, {"[nt]", "nt"}, {"[\\[-\\]]", "[\\]"},
		{"\\n", "\n"}, {"\\t", "\t"}, {"n", "n"}, {"\\.", "."}, {"\\*", "*"}, {"\\\\", "\\"}, {"\\[", "["}, {"\\]", "]"}, {"\\(", "("}, {"\\)", ")"}, {"\\|", "|"}, {"\\+", "+"}, {"\\?", "?"}, {"\\ ", " "}, {"\\~", "~"}, {"\\-", "-"}, {"\\^", "^"}, {"\\_", "_"},
		{"a|.", span(0, 9) + span(11, 255)}, {"\\n|.", span(0, 255)}, {"[^a]|a", span(0, 255)}, {"([a-c]|x)", "abcx"},
	} {
		if set := setOf(t, c.pattern); set != c.set {
			t.Errorf("%q matches %q, want %q", c.pattern, set, c.set)
		}
	}
	for c := 32; c < 127; c++ {
		b := string([]byte{byte(c)})
		if !strings.Contains("\\[]()|*+?.", b) && setOf(t, b) != b {
			t.Errorf("%q does not match itself alone", b)
		}
		if !strings.Contains("\\]^-", b) && setOf(t, "["+b+"]") != b {
			t.Errorf("[%s] does not match %q alone", b, b)
		}
	}
}

func TestMatchLength(t *testing.T) {
	testPattern(t, "x+", []string{strings.Repeat("x", api.MaxInput-1), strings.Repeat("x", api.MaxInput)}, []string{strings.Repeat("x", api.MaxInput-1) + "y"})
	long := strings.Repeat("x", api.MaxInput+1)
	longSpec := strings.Repeat("S:\n", api.MaxSpec/3+1)
	fullSpec := "ab=" + strings.Repeat("x?", 396) + "x\nS:\n"
	if len(fullSpec) != api.MaxSpec {
		t.Fatalf("the specification has %d bytes", len(fullSpec))
	}
	testMatch(t, []matched{
		{fullSpec, 0, strings.Repeat("x", api.MaxInput), true, api.OK},
		{fullSpec, 0, long, false, api.ErrLong},
		{"a=x+\nS:\n", 0, long, false, api.ErrLong},
		{longSpec, 0, "", false, api.ErrLong},
		{longSpec, 0, long, false, api.ErrLong},
		{sums, 0, strings.Repeat("7", 1<<20), false, api.ErrLong},
	})
}

// matched is a call of Match and what it is to answer.
type matched struct {
	spec    string
	rule    int
	text    string
	matches bool
	err     api.Errno
}

func testMatch(t *testing.T, cases []matched) {
	t.Helper()
	for _, c := range cases {
		matches, err := grammar.Match(c.spec, c.rule, c.text)
		if matches != c.matches || err != c.err {
			t.Errorf("Match(%.60q, %d, %.60q) = %v, %d, want %v, %d", c.spec, c.rule, c.text, matches, err, c.matches, c.err)
		}
	}
}

func TestMatchExamples(t *testing.T) {
	testMatch(t, []matched{
		{sums, 0, "007", true, api.OK},
		{sums, 0, "", false, api.OK},
		{sums, 4, "  ", true, api.OK},
		{sums, 9, "", false, api.ErrArg},
	})
}

func TestMatchRule(t *testing.T) {
	mixed := "S: a\na=x\nS:\nb~y\nS: c\nc=z\n"
	testMatch(t, []matched{
		{mixed, 0, "x", true, api.OK}, {mixed, 1, "y", true, api.OK}, {mixed, 2, "z", true, api.OK}, {mixed, 0, "y", false, api.OK}, {mixed, 1, "z", false, api.OK}, {mixed, 2, "x", false, api.OK},
		{mixed, 3, "x", false, api.ErrArg}, {mixed, -1, "x", false, api.ErrArg}, {mixed, math.MaxInt, "x", false, api.ErrArg}, {mixed, math.MinInt, "x", false, api.ErrArg},
		{sums, 5, "", false, api.ErrArg}, {sums, 4, "", false, api.OK}, {"S:\n", 0, "", false, api.ErrArg},
		{numbered("%=%\n", 'a', api.MaxRules) + "S:\n", api.MaxRules - 1, "h", true, api.OK}, {numbered("%=%\n", 'a', api.MaxRules) + "S:\n", api.MaxRules, "h", false, api.ErrArg},
	})
}

func TestMatchFirstError(t *testing.T) {
	long := strings.Repeat("x", api.MaxInput+1)
	testMatch(t, []matched{
		{"?", 9, long, false, api.ErrLong}, {"", 9, long, false, api.ErrLong}, {"a=x*\nS:\n", 9, long, false, api.ErrLong}, {sums, 9, long, false, api.ErrLong},
		{"?", 9, "x", false, api.ErrForm}, {strings.Repeat("S:\n", api.MaxProds+1), 9, "x", false, api.ErrMany}, {"S: a\n", 9, "x", false, api.ErrName}, {"a=x*\nS:\n", 9, "x", false, api.ErrEmpty}, {"a=x\n", 9, "x", false, api.ErrNone},
		{"a=x?\nS:\n", 0, "x", false, api.ErrEmpty}, {"a=x\n", 0, "x", false, api.ErrNone}, {"a=x\nS: b\n", 0, "x", false, api.ErrName}, {"a=x\na=y\nS:\n", 0, "x", false, api.ErrName}, {"a=x", 0, "x", false, api.ErrForm},
	})
}
