package grammar_test

import (
	"fmt"
	"slices"
	"strings"
	"testing"

	"grammar/api"
	"grammar/grammar"
)

// setText is a set as one text: N, R, F for what holds, then First, a bar, and Follow.
func setText(s api.Set) string {
	out := ""
	if s.Nullable {
		out += "N"
	}
	if s.Reached {
		out += "R"
	}
	if s.Fruitful {
		out += "F"
	}
	for _, t := range s.First {
		out += fmt.Sprintf(" %d", t)
	}
	out += " |"
	for _, t := range s.Follow {
		out += fmt.Sprintf(" %d", t)
	}
	return out
}

func setTexts(sets []api.Set) []string {
	var out []string
	for _, s := range sets {
		out = append(out, setText(s))
	}
	return out
}

// given is a specification, and its sets as texts.
type given struct {
	spec string
	sets []string
}

func testSets(t *testing.T, cases []given) {
	t.Helper()
	for _, c := range cases {
		sets, err := grammar.Sets(c.spec)
		if err != api.OK || !slices.Equal(setTexts(sets), c.sets) {
			t.Errorf("Sets(%q) = %q, %d, want %q", c.spec, setTexts(sets), err, c.sets)
		}
	}
}

func TestSetsExamples(t *testing.T) {
	testSets(t, []given{
		{sums, []string{"RF 0 2 | 3 5", "NRF 1 | 3 5", "RF 0 2 | 1 3 5"}},
		{"a=a\nS: a T\nT: a T\n", []string{"R 0 | 1", "R 0 | 1"}},
	})
}

func TestSetsNullable(t *testing.T) {
	testSets(t, []given{
		{"S:\n", []string{"NRF | 0"}},
		{"a=a\nS: a\n", []string{"RF 0 | 1"}},
		{"a=a\nS: a\nS:\n", []string{"NRF 0 | 1"}},
		{"S: A B\nA:\nB:\n", []string{"NRF | 0", "NRF | 0", "NRF | 0"}},
		{"a=a\nS: A B\nA:\nB: a\n", []string{"RF 0 | 1", "NRF | 0", "RF 0 | 1"}},
		{"a=a\nS: A B\nA: a\nB:\n", []string{"RF 0 | 1", "RF 0 | 1", "NRF | 1"}},
		{"a=a\nS: A A A A A A\nA: a\nA:\n", []string{"NRF 0 | 1", "NRF 0 | 0 1"}},
		// Nothing that has a rule in it derives the empty string.
		{"a=a\nS: A a A\nA:\n", []string{"RF 0 | 1", "NRF | 0 1"}},
	})
}

// The heads lie so that what is found of one is wanted by one ahead of it, or behind it.
func TestSetsChains(t *testing.T) {
	testSets(t, []given{
		{"z=z\nA: B\nB: C\nC: D\nD: E\nE: F\nF: G\nG: H\nH: z\nH:\n", slices.Repeat([]string{"NRF 0 | 1"}, 8)},
		{"z=z\nA: H\nB: z\nB:\nC: B\nD: C\nE: D\nF: E\nG: F\nH: G\n", slices.Repeat([]string{"NRF 0 | 1"}, 8)},
		{"z=z\nA: H z\nB:\nC: B\nD: C\nE: D\nF: E\nG: F\nH: G\n", append([]string{"RF 0 | 1"}, slices.Repeat([]string{"NRF | 0"}, 7)...)},
		{"z=z\nA: H\nB: z B\nC: B\nD: C\nE: D\nF: E\nG: F\nH: G\n", slices.Repeat([]string{"R 0 | 1"}, 8)},
	})
}

func TestSetsFirst(t *testing.T) {
	testSets(t, []given{
		{"a=a\nb=b\nc=c\nS: c\nS: a\nS: b\n", []string{"RF 0 1 2 | 3"}},
		{"a=a\nb=b\nc=c\nS: A B c\nA: a\nA:\nB: b\nB:\n", []string{"RF 0 1 2 | 3", "NRF 0 | 1 2", "NRF 1 | 2"}},
		{"a=a\nb=b\nc=c\nS: A B c\nA: a\nA:\nB: b\n", []string{"RF 0 1 | 3", "NRF 0 | 1", "RF 1 | 2"}},
		{"a=a\nb=b\nc=c\nS: A B c\nA: a\nB: b\n", []string{"RF 0 | 3", "RF 0 | 1", "RF 1 | 2"}},
		{"a=a\nb=b\nS: a b\n", []string{"RF 0 | 2"}},
	})
}

// A head that is not fruitful hides what stands behind it, not what stands ahead of it.
func TestSetsNotFruitful(t *testing.T) {
	testSets(t, []given{
		{"a=a\nS: U a\nU: U\n", []string{"R | 1", "R | 0"}},
		{"a=a\nS: a U\nU: U\n", []string{"R 0 | 1", "R | 1"}},
		{"a=a\nS: N a U\nU: U\nN:\n", []string{"R 0 | 1", "R | 1", "NRF | 0"}},
		{"a=a\nS: A U\nA: a\nU: U\n", []string{"R 0 | 1", "RF 0 |", "R | 1"}},
		{"a=a\nb=b\nS: A U\nA: a\nU: b U\n", []string{"R 0 | 2", "RF 0 | 1", "R 1 | 2"}},
		{"a=a\nS: a\nS: U\nU: a U\n", []string{"RF 0 | 1", "R 0 | 1"}},
		{"a=a\nb=b\nS: A\nA: a B\nB: b A\n", []string{"R 0 | 2", "R 0 | 2", "R 1 | 2"}},
		{"a=a\nb=b\nS: A\nA: a B\nB: b A\nB: b\n", []string{"RF 0 | 2", "RF 0 | 2", "RF 1 | 2"}},
	})
}

func TestSetsOfHeadsThatDeriveThemselves(t *testing.T) {
	testSets(t, []given{
		{"S: S\n", []string{"R | 0"}},
		{"S: S\nS:\n", []string{"NRF | 0"}},
		{"S: S S\n", []string{"R | 0"}},
		{"a=a\nS: S S\nS: a\n", []string{"RF 0 | 0 1"}},
		{"a=a\nS: S a\n", []string{"R | 0 1"}},
		{"a=a\nS: S a\nS:\n", []string{"NRF 0 | 0 1"}},
		{"a=a\nS: a S\nS:\n", []string{"NRF 0 | 1"}},
		{"a=a\nA: B\nB: A\n", []string{"R | 1", "R | 1"}},
		{"a=a\nb=b\nA: B a\nB: A b\nB:\n", []string{"RF 0 | 1 2", "NRF 0 | 0"}},
		{"a=a\nS: N S a\nN:\n", []string{"R | 0 1", "NRF |"}},
	})
}

func TestSetsReached(t *testing.T) {
	testSets(t, []given{
		{"a=a\nS: a\nT: a\n", []string{"RF 0 | 1", "F 0 |"}},
		{"a=a\nS: a\nT: T\n", []string{"RF 0 | 1", " |"}},
		{"a=a\nS: a\nT: U\nU: T\nU:\n", []string{"RF 0 | 1", "NF |", "NF |"}},
		// What is not reached adds to what follows all the same.
		{"a=a\nb=b\nS: a\nT: S b\n", []string{"RF 0 | 1 2", "F 0 |"}},
		{"a=a\nb=b\nS: a\nT: U S\nU: T b\n", []string{"RF 0 | 1 2", " | 1", " | 0"}},
		{"a=a\nS: a\nT: S\n", []string{"RF 0 | 1", "F 0 |"}},
		{"A: H\nB:\nC: B\nD: C\nE: D\nF: E\nG: F\nH: A G A\n", []string{"R | 0", "NRF |", "NRF |", "NRF |", "NRF |", "NRF |", "NRF |", "R | 0"}},
		{"A:\nB: C\nC: D\nD:\n", []string{"NRF | 0", "NF |", "NF |", "NF |"}},
	})
}

func TestSetsFollow(t *testing.T) {
	testSets(t, []given{
		{"a=a\nb=b\nS: A B\nA: a\nB: b\nB:\n", []string{"RF 0 | 2", "RF 0 | 1 2", "NRF 1 | 2"}},
		{"a=a\nb=b\nS: A b A\nA: a\n", []string{"RF 0 | 2", "RF 0 | 1 2"}},
		{"a=a\nb=b\nS: A A b\nA: a\n", []string{"RF 0 | 2", "RF 0 | 0 1"}},
		{"a=a\nb=b\nc=c\nS: A B C c\nA: a\nB: b\nB:\nC: A\nC:\n", []string{"RF 0 | 3", "RF 0 | 0 1 2", "NRF 1 | 0 2", "NRF 0 | 2"}},
		{"a=a\nb=b\nc=c\nS: a A\nA: b B\nB: c A\nB:\n", []string{"RF 0 | 3", "RF 1 | 3", "NRF 2 | 3"}},
		// Each passes what follows it on to the one ahead of it in the order of the lines.
		{"z=z\nS: E z\nA: z\nB: A\nC: B\nD: C\nE: D\n", []string{"RF 0 | 1", "RF 0 | 0", "RF 0 | 0", "RF 0 | 0", "RF 0 | 0", "RF 0 | 0"}},
	})
}

func TestSetsNumbers(t *testing.T) {
	testSets(t, []given{
		// Rules that are skipped have numbers too, and rules may stand anywhere.
		{"x~x\na=a\ny~y\nS: a\nz~z\n", []string{"RF 1 | 4"}},
		{"S: b a\na=a\nb=b\n", []string{"RF 1 | 2"}},
		{"S: A\na=a\nA: b\nb=b\nS: a\n", []string{"RF 0 1 | 2", "RF 1 | 2"}},
		// Heads are numbered where they begin a production, not where they stand in one.
		{"a=a\nb=b\nS: T U\nU: a\nT: b\n", []string{"RF 1 | 2", "RF 0 | 2", "RF 1 | 0"}},
		{"a=a\nb=b\nT: U\nU: a\nT: b\nS: T\nU:\n", []string{"NRF 0 1 | 2", "NRF 0 | 2", "NF 0 1 |"}},
		// A NAME and a HEAD, and names of which one begins as the other.
		{"s=s\nss=t\nS: ss\nSs: s S\n", []string{"RF 1 | 2", "F 0 |"}},
	})
}

func TestSetsAtLimits(t *testing.T) {
	rules := numbered("%=x\n", 'a', api.MaxRules)
	testSets(t, []given{
		{rules + "S: h g f e d c\nS: g\nS: f\nS: e\nS: d\nS: c\nS: b\nS: a\n", []string{"RF 0 1 2 3 4 5 6 7 | 8"}},
		{rules + "S: S a\nS: S b\nS: S c\nS: S d\nS: S e\nS: S f\nS: S g\nS: S h\nS:\n", []string{"NRF 0 1 2 3 4 5 6 7 | 0 1 2 3 4 5 6 7 8"}},
		{numbered("%:\n", 'A', api.MaxHeads), append([]string{"NRF | 0"}, slices.Repeat([]string{"NF |"}, api.MaxHeads-1)...)},
		{strings.Repeat("S:\n", api.MaxProds), []string{"NRF | 0"}},
		{"a=a\n" + strings.Repeat("S:\n", api.MaxProds-1) + "S: a\n", []string{"NRF 0 | 1"}},
		{"a=a\nS: N N N N N a\nN:\n", []string{"RF 0 | 1", "NRF | 0"}},
		{"a=a\nb=b\nS: N b b b b T\nT: a\nN:\n", []string{"RF 1 | 2", "RF 0 | 2", "NRF | 1"}},
		{rules + "A: H a\nA: H b\nA: H c\nB: A d\nC: B e\nD: C f\nE: D g\nF: E h\nG: F\nH: G\nH:\n", []string{
			"RF 0 1 2 | 3 8", "RF 0 1 2 | 4", "RF 0 1 2 | 5", "RF 0 1 2 | 6", "RF 0 1 2 | 7", "RF 0 1 2 | 0 1 2", "RF 0 1 2 | 0 1 2", "NRF 0 1 2 | 0 1 2"}},
	})
}

// refused is a specification that Check refuses, and the error.
type refused struct {
	spec string
	err  api.Errno
}

// wrongSpecs have the error that stands beside them and, most of them, others that are named later.
func wrongSpecs() []refused {
	tooManySymbols := "S:" + strings.Repeat(" S", api.MaxSyms+1) + "\n"
	return []refused{
		{strings.Repeat("x", api.MaxSpec+1), api.ErrLong},
		{sums + "a=" + strings.Repeat("x", api.MaxSpec) + "\n", api.ErrLong},
		{strings.Repeat("S:\n", api.MaxSpec/3+1), api.ErrLong},
		{"\n", api.ErrForm}, {"S", api.ErrForm}, {"a=x", api.ErrForm}, {"S: a\n?", api.ErrForm}, {sums + "Sum", api.ErrForm}, {sums + "x=(", api.ErrForm},
		{strings.Repeat("S:\n", api.MaxProds+1) + "S", api.ErrForm},
		{strings.Repeat("S:\n", api.MaxProds+1), api.ErrMany}, {"a=x*\nS: b\n" + tooManySymbols, api.ErrMany},
		{numbered("%=x\n", 'a', api.MaxRules+1), api.ErrMany}, {numbered("%:\n", 'A', api.MaxHeads+1), api.ErrMany},
		{"S: a\n", api.ErrName}, {"S: T\n", api.ErrName}, {"a~x\nS: a\n", api.ErrName}, {"a=x*\na=x\n", api.ErrName}, {"a=x*\nS: b\n", api.ErrName},
		{"a=x*\n", api.ErrEmpty}, {"a=x*\nS:\n", api.ErrEmpty}, {"S: a S\nS: a\na=x?\n", api.ErrEmpty},
		{"", api.ErrNone}, {"a=x\n", api.ErrNone},
	}
}

func TestSetsErrors(t *testing.T) {
	for _, c := range wrongSpecs() {
		sets, err := grammar.Sets(c.spec)
		if err != c.err || len(sets) != 0 {
			t.Errorf("Sets(%.80q) = %v, %d, want %d", c.spec, sets, err, c.err)
		}
	}
	long := "a=" + strings.Repeat("x", api.MaxSpec-8) + "\nS: a\n"
	testSets(t, []given{{long, []string{"RF 0 | 1"}}})
	if sets, err := grammar.Sets(long + "S:\n"); err != api.ErrLong || len(sets) != 0 {
		t.Errorf("Sets of too many bytes = %v, %d", sets, err)
	}
}

// listsOf are all the lists of numbers in an answer of Sets.
func listsOf(sets []api.Set) [][]int {
	var lists [][]int
	for _, s := range sets {
		lists = append(lists, s.First, s.Follow)
	}
	return lists
}

func TestSetsAreFresh(t *testing.T) {
	for _, spec := range []string{sums, "S:\n", "a=a\nS: a T\nT: a T\n", "a=a\nS: A\nA: B\nB: a\n", numbered("%=x\n", 'a', api.MaxRules) + "S: T\nT: S a\nT: b\nT: c\nT: d\nT: e\nT: f\nT: g\nT: h\nT: a\n"} {
		first, _ := grammar.Sets(spec)
		want := setTexts(first)
		second, _ := grammar.Sets(spec)
		lists := append(listsOf(first), listsOf(second)...)
		for k, list := range lists {
			for i := range list[:cap(list)] {
				list[:cap(list)][i] = 100 + k
			}
		}
		for k, list := range lists {
			for _, number := range list[:cap(list)] {
				if number != 100+k {
					t.Errorf("Sets(%q): list %d shows what was written into list %d", spec, k, number-100)
				}
			}
		}
		kept := setTexts(second)
		for i := range first[:cap(first)] {
			first[:cap(first)][i] = api.Set{}
		}
		third, err := grammar.Sets(spec)
		if err != api.OK || !slices.Equal(setTexts(third), want) || !slices.Equal(setTexts(second), kept) {
			t.Errorf("Sets(%q) = %q, %d behind others that were written into, want %q", spec, setTexts(third), err, want)
		}
	}
}
