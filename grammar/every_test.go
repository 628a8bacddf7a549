package grammar_test

import (
	"math"
	"math/rand"
	"slices"
	"strings"
	"testing"

	"grammar/api"
	"grammar/grammar"
)

// callAll makes every call; it ends, and does not panic, or the test fails.
func callAll(spec string, rule int, text string, kinds []int) {
	grammar.Check(spec)
	grammar.Match(spec, rule, text)
	grammar.Lex(spec, text)
	grammar.Sets(spec)
	grammar.Clashes(spec)
	grammar.Parse(spec, kinds)
	grammar.Run(spec, text)
}

// noise is n bytes, of those of an alphabet or, if it is empty, of all.
func noise(r *rand.Rand, n int, alphabet string) string {
	out := make([]byte, n)
	for i := range out {
		if alphabet == "" {
			out[i] = byte(r.Intn(256))
		} else {
			out[i] = alphabet[r.Intn(len(alphabet))]
		}
	}
	return string(out)
}

// damaged is a text in which some bytes are left out, put in or changed.
func damaged(r *rand.Rand, text string, alphabet string) string {
	for n := r.Intn(4); n > 0; n-- {
		at := r.Intn(len(text) + 1)
		to := min(len(text), at+r.Intn(3))
		text = text[:at] + noise(r, r.Intn(3), alphabet) + text[to:]
	}
	return text
}

// specBytes are the bytes that specifications are made of, the telling ones more often.
const specBytes = "abzABZ0 =~:\n\n\\[]()|*+?.^-nt{\t\x80"

func TestEveryCallEnds(t *testing.T) {
	r := rand.New(rand.NewSource(1))
	rules := []int{0, 1, 4, 7, 8, -1, math.MaxInt, math.MinInt}
	for i := 0; i < 4000; i++ {
		rule := rules[r.Intn(len(rules))]
		callAll(noise(r, r.Intn(900), ""), rule, noise(r, r.Intn(250), ""), []int{rule})
		callAll(noise(r, r.Intn(40), specBytes), rule, noise(r, r.Intn(20), specBytes), nil)
		callAll("a="+noise(r, r.Intn(12), specBytes[9:])+"\nS: a\n", rule, noise(r, r.Intn(20), "ab\n"), []int{0, rule})
		callAll(damaged(r, sums, specBytes), rule, noise(r, r.Intn(20), "12+() "), []int{0, 1, 0})
	}
}

// randomKinds are some kinds, at most one too many; most of them are rules' numbers.
func randomKinds(r *rand.Rand, rules int) []int {
	kinds := make([]int, r.Intn(api.MaxWord+2))
	for i := range kinds {
		kinds[i] = r.Intn(max(rules, 1))
	}
	if r.Intn(5) == 0 && len(kinds) > 0 {
		kinds[r.Intn(len(kinds))] = r.Intn(12) - 2
	}
	return kinds
}

// Productions of which few clash, and heads that are not fruitful or derive nothing but themselves among them.
func TestEveryCallEndsAtOrderlyProductions(t *testing.T) {
	r := rand.New(rand.NewSource(3))
	for i := 0; i < 3000; i++ {
		d := orderlyDeriver(r)
		callAll(d.spec(r), 0, strings.Repeat("x", r.Intn(api.MaxWord+2)), randomKinds(r, d.rules))
	}
}

// Productions at all limits, of heads that wind through each other.
func TestEveryCallEndsAtManyProductions(t *testing.T) {
	r := rand.New(rand.NewSource(2))
	for i := 0; i < 2000; i++ {
		d := deriver{rules: r.Intn(api.MaxRules + 1), heads: 1 + r.Intn(api.MaxHeads)}
		ruled := r.Intn(5)
		for len(d.prods) < api.MaxProds {
			head := byte('A' + r.Intn(d.heads))
			if n := len(d.prods); n < d.heads {
				head = byte('A' + n)
			}
			symbols := noise(r, r.Intn(api.MaxSyms+1), "ABCDEFGH"[:d.heads])
			if d.rules > 0 && r.Intn(4) < ruled {
				symbols = noise(r, r.Intn(api.MaxSyms+1), "abcdefgh"[:d.rules]+"ABCDEFGH"[:d.heads])
			}
			d.prods = append(d.prods, derived{head, symbols})
		}
		spec := d.spec(r)
		if err, at := grammar.Check(spec); err != api.OK {
			t.Fatalf("Check(%q) = %d, %d", spec, err, at)
		}
		callAll(spec, 0, "xxx", []int{0, 0, 0})
		callAll(spec, 0, strings.Repeat("x", api.MaxWord), randomKinds(r, d.rules))
		sets, _ := grammar.Sets(spec)
		if len(sets) != d.heads {
			t.Errorf("Sets(%q): %d sets of %d heads", spec, len(sets), d.heads)
		}
	}
}

// Patterns that cost most where every way through them is tried for itself.
func TestEveryCallEndsAtCostlyPatterns(t *testing.T) {
	text := strings.Repeat("a", api.MaxInput)
	for _, pattern := range []string{
		"(a*)*b", "((((((a*)*)*)*)*)*)*b", "(a|a)*b", "(a?)+b", strings.Repeat("a?", 390), strings.Repeat("a?", 380) + "b",
		"a" + strings.Repeat("*", 780) + "b", "a" + strings.Repeat("*+?", 260) + "b", "((((((a+)+)+)+)+)+)+b", "(" + strings.Repeat("a*", 380) + ")*b",
		"(" + strings.Repeat("a|", 390) + "a)*b", "(" + strings.Repeat(".?", 380) + ")*\\n",
	} {
		spec := "a=" + pattern + "\nz=a\nS: z\n"
		if len(spec) > api.MaxSpec {
			t.Fatalf("%.40q is too long", pattern)
		}
		callAll(spec, 0, text, nil)
		callAll(spec, 0, text[1:]+"b", nil)
	}
}

func TestAnswersDependOnArgumentsAlone(t *testing.T) {
	other := "x=1+\ny~[^1]\nS: x S\nS:\n"
	tokens, err, at := grammar.Lex(sums, "12 + 3")
	clashing := "a=a\nS: A a\nA: a\nA:\n"
	for i := 0; i < 3; i++ {
		testSets(t, []given{{sums, []string{"RF 0 2 | 3 5", "NRF 1 | 3 5", "RF 0 2 | 1 3 5"}}, {clashing, []string{"RF 0 | 1", "NRF 0 | 0"}}})
		testClashes(t, clashing, clash(1, 0, 1, 2))
		testClashes(t, sums)
		testParse(t, sums, "0 1 0", "p0(p3(0) p1(1 p3(0) p2()))")
		testParse(t, sums, "0 1 1 0", wrong(2, "0 2"))
		testParse(t, clashing, "0", only(api.ErrClash))
		testRun(t, other, "11 + 1", "0:0-2 0:5-6 p0(0 p0(0 p1()))")
		testRun(t, sums, "1 +", wrong(3, "0 2"))
		grammar.Lex(other, "11 + 3")
		grammar.Lex(sums, "x")
		grammar.Lex("a=", "12 + 3")
		grammar.Match(other, 0, "111")
		grammar.Check(other)
		again, againErr, againAt := grammar.Lex(sums, "12 + 3")
		if !slices.Equal(tokens, again) || err != againErr || at != againAt {
			t.Errorf("Lex answers %v, %d, %d and then %v, %d, %d", tokens, err, at, again, againErr, againAt)
		}
		if matches, err := grammar.Match(sums, 0, "11"); !matches || err != api.OK {
			t.Errorf("Match answers %v, %d", matches, err)
		}
		if matches, err := grammar.Match(sums, 1, "11"); matches || err != api.OK {
			t.Errorf("Match answers %v, %d", matches, err)
		}
		if err, at := grammar.Check("S: T\n"); err != api.ErrName || at != 3 {
			t.Errorf("Check answers %d, %d", err, at)
		}
		if err, at := grammar.Check(sums); err != api.OK || at != 0 {
			t.Errorf("Check answers %d, %d", err, at)
		}
	}
}

func TestListsAreFresh(t *testing.T) {
	inputs := []string{"12 + 3", "1", "", "1+1+1+1+1", "(((((1)))))", strings.Repeat("1 ", 100)}
	for _, input := range inputs {
		first, _, _ := grammar.Lex(sums, input)
		second, _, _ := grammar.Lex(sums, input)
		want := slices.Clone(second)
		// The spare room too is the caller's.
		first = first[:cap(first)]
		for i := range first {
			first[i] = api.Token{Rule: -7, From: -7, To: -7}
		}
		third, _, _ := grammar.Lex(sums, input)
		if !slices.Equal(second, want) || !slices.Equal(third, want) {
			t.Errorf("Lex(%q): a list that was written into shows in another: %v, %v, want %v", input, second, third, want)
		}
		spare := second[len(second):cap(second)]
		for _, token := range spare {
			if token.Rule == -7 {
				t.Errorf("Lex(%q): two lists share spare room", input)
			}
		}
	}
}

func TestNoTokensBesideErrors(t *testing.T) {
	for _, c := range []struct{ spec, input string }{
		{sums, "1 + 2 -"}, {sums, strings.Repeat("1 ", 101)}, {sums + "?", "1"}, {sums + "Sum: x\n", "1"}, {sums + "num=1\n", "1"}, {sums + "x=x*\n", "1"}, {"num=1\n", "1"}, {strings.Repeat("S:\n", 300), "1"}, {"num=1\n" + strings.Repeat("S:\n", 21), "1"},
	} {
		tokens, err, _ := grammar.Lex(c.spec, c.input)
		if err == api.OK || len(tokens) != 0 {
			t.Errorf("Lex(%.60q, %.60q) = %v, %d", c.spec, c.input, tokens, err)
		}
	}
}
