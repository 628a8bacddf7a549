package grammar_test

import (
	"slices"
	"strings"
	"testing"

	"grammar/api"
	"grammar/grammar"
)

// clash is Head, Token, First and Second, as in the lists of the tests.
func clash(head, token, first, second int) api.Clash {
	return api.Clash{Head: head, Token: token, First: first, Second: second}
}

func testClashes(t *testing.T, spec string, want ...api.Clash) {
	t.Helper()
	clashes, err := grammar.Clashes(spec)
	if err != api.OK || !slices.Equal(clashes, want) {
		t.Errorf("Clashes(%q) = %v, %d, want %v", spec, clashes, err, want)
	}
}

func TestClashesExamples(t *testing.T) {
	testClashes(t, sums)
	testClashes(t, "a=a\nS: a S\nS: a\n", clash(0, 0, 0, 1))
	testClashes(t, "a=a\nS: A a\nA: a\nA:\n", clash(1, 0, 1, 2))
}

func TestClashesNone(t *testing.T) {
	testClashes(t, "S:\n")
	testClashes(t, "S: S\n")
	testClashes(t, "a=a\nb=b\nS: a\nS: b\nS:\n")
	testClashes(t, "a=a\nS: a S\nS:\n")
	// Of two heads there is no clash, nor of a production with itself.
	testClashes(t, "a=a\nS: a\nT: a\n")
	testClashes(t, "a=a\nS: A A\nA: a\n")
	// Nothing stands ahead of a production that begins with a head which derives only itself.
	testClashes(t, "a=a\nS: U\nS: a\nS:\nU: U\n")
	testClashes(t, "a=a\nS: U a\nS: a\nS:\nU: U\n")
}

func TestClashesOverRules(t *testing.T) {
	testClashes(t, "a=a\nS: S a\nS: a\n", clash(0, 0, 0, 1))
	testClashes(t, "a=a\nS: S\nS: a\n", clash(0, 0, 0, 1))
	testClashes(t, "a=a\nb=b\nS: A\nS: a b\nA: B a\nB: b\nB:\n", clash(0, 0, 0, 1))
	testClashes(t, "a=a\nS: a T\nS: a U\nT: T\nU: U\n", clash(0, 0, 0, 1))
	testClashes(t, "x~x\na=a\nS: a S\nS: a\n", clash(0, 1, 0, 1))
	testClashes(t, "S: a S\nS: a\nx~x\na=a\n", clash(0, 1, 0, 1))
}

func TestClashesOverWhatFollows(t *testing.T) {
	testClashes(t, "S:\nS:\n", clash(0, 0, 0, 1))
	testClashes(t, "a=a\nb~b\nS:\nS:\n", clash(0, 2, 0, 1))
	testClashes(t, "a=a\nS: T\nS:\nT:\n", clash(0, 1, 0, 1))
	testClashes(t, "a=a\nS: T a\nT:\nT:\n", clash(1, 0, 1, 2))
	testClashes(t, "a=a\nb=b\nS: T b\nS: T a\nT: a\nT:\n", clash(0, 0, 0, 1), clash(1, 0, 2, 3))
	testClashes(t, "a=a\nS: S a\nS:\n", clash(0, 0, 0, 1))
	testClashes(t, "a=a\nS: S\nS: a\nS:\n", clash(0, 0, 0, 1), clash(0, 1, 0, 2))
	testClashes(t, "a=a\nS: S S\nS: a\nS:\n", clash(0, 0, 0, 1), clash(0, 0, 0, 2), clash(0, 0, 1, 2), clash(0, 1, 0, 2))
	// A head that derives the empty string in the end only.
	testClashes(t, "a=a\nS: T a\nT: A B\nT: a\nA:\nB: A\n", clash(1, 0, 1, 2))
}

// Nothing follows a head that is not reached, unless something stands behind it.
func TestClashesOfHeadsNotReached(t *testing.T) {
	testClashes(t, "S:\nT:\nT:\n")
	testClashes(t, "a=a\nS:\nT: a\nT: a T\n", clash(1, 0, 1, 2))
	testClashes(t, "a=a\nS:\nT:\nT:\nU: T a\n", clash(1, 0, 1, 2))
	testClashes(t, "a=a\nS: a\nS:\nT: S a\n", clash(0, 0, 0, 1))
	testClashes(t, "a=a\nS:\nT: a T\nT: a U\nU: U\n", clash(1, 0, 1, 2))
}

func TestClashesOrder(t *testing.T) {
	testClashes(t, "a=a\nb=b\nT: b\nS: a T\nT: b a\nS: a\n", clash(0, 1, 0, 2), clash(1, 0, 1, 3))
	testClashes(t, "a=a\nb=b\nS: b\nS: A\nS: a\nS: B\nA: a\nB: b\n", clash(0, 0, 1, 2), clash(0, 1, 0, 3))
	testClashes(t, "a=a\nb=b\nS: A\nS: A\nS: A\nA: b\nA: a\nA:\n",
		clash(0, 0, 0, 1), clash(0, 0, 0, 2), clash(0, 0, 1, 2),
		clash(0, 1, 0, 1), clash(0, 1, 0, 2), clash(0, 1, 1, 2),
		clash(0, 2, 0, 1), clash(0, 2, 0, 2), clash(0, 2, 1, 2))
	// The heads' order is that in which they first begin a production.
	testClashes(t, "a=a\nS: U T\nT: a\nU: a\nT: a\nU: a\n", clash(1, 0, 1, 3), clash(2, 0, 2, 4))
	testClashes(t, "a=a\nS: a U\nU: a\nS: a\nU: a\nS: a\n", clash(0, 0, 0, 2), clash(0, 0, 0, 4), clash(0, 0, 2, 4), clash(1, 0, 1, 3))
}

func TestClashesAtLimits(t *testing.T) {
	all := func(token, n int) []api.Clash {
		var out []api.Clash
		for first := 0; first < n; first++ {
			for second := first + 1; second < n; second++ {
				out = append(out, clash(0, token, first, second))
			}
		}
		return out
	}
	testClashes(t, strings.Repeat("S:\n", api.MaxProds), all(0, api.MaxProds)...)
	rules := numbered("%=x\n", 'a', api.MaxRules)
	testClashes(t, rules+strings.Repeat("S:\n", api.MaxProds), all(api.MaxRules, api.MaxProds)...)
	ways := api.MaxProds - api.MaxRules - 1
	var want []api.Clash
	for token := 0; token <= api.MaxRules; token++ {
		want = append(want, all(token, ways)...)
	}
	testClashes(t, rules+strings.Repeat("S: T T T T T T\n", ways)+"T: h\nT: g\nT: f\nT: e\nT: d\nT: c\nT: b\nT: a\nT:\n", append(want, clashesWithEmpty(1, ways)...)...)
	testClashes(t, numbered("%:\n", 'A', api.MaxHeads)+"A:\nB:\nB: A\n", clash(0, 0, 0, 8))
}

// clashesWithEmpty are those of a head with a production for each rule, in
// falling order from a number on, and an empty one that each rule follows.
func clashesWithEmpty(head, from int) []api.Clash {
	var out []api.Clash
	for token := 0; token < api.MaxRules; token++ {
		out = append(out, clash(head, token, from+api.MaxRules-1-token, from+api.MaxRules))
	}
	return out
}

func TestClashesErrors(t *testing.T) {
	for _, c := range wrongSpecs() {
		clashes, err := grammar.Clashes(c.spec)
		if err != c.err || len(clashes) != 0 {
			t.Errorf("Clashes(%.80q) = %v, %d, want %d", c.spec, clashes, err, c.err)
		}
	}
	long := "a=" + strings.Repeat("x", api.MaxSpec-9) + "\nS:\nS:\n"
	testClashes(t, long, clash(0, 1, 0, 1))
	if clashes, err := grammar.Clashes(long + "S:\n"); err != api.ErrLong || len(clashes) != 0 {
		t.Errorf("Clashes of too many bytes = %v, %d", clashes, err)
	}
}

func TestClashesAreFresh(t *testing.T) {
	for _, spec := range []string{"S:\nS:\n", "S:\nS:\nS:\n", strings.Repeat("S:\n", api.MaxProds)} {
		first, _ := grammar.Clashes(spec)
		want := slices.Clone(first)
		second, _ := grammar.Clashes(spec)
		for i := range first[:cap(first)] {
			first[:cap(first)][i] = clash(-7, -7, -7, -7)
		}
		third, _ := grammar.Clashes(spec)
		if !slices.Equal(second, want) || !slices.Equal(third, want) {
			t.Errorf("Clashes(%.20q): a list that was written into shows in another: %v, %v", spec, second, third)
		}
		if slices.Contains(second[:cap(second)], clash(-7, -7, -7, -7)) {
			t.Errorf("Clashes(%.20q): two lists share spare room", spec)
		}
	}
}
