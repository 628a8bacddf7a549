package grammar_test

import (
	"fmt"
	"math/rand"
	"slices"
	"strings"
	"testing"

	"grammar/api"
	"grammar/grammar"
)

// chart tells which parts of a word the heads derive. A word is bytes, as the
// symbols of a deriver are. It tries all productions at all places, and does
// not, as the program does, choose one by what stands ahead of it.
type chart struct {
	d    deriver
	word string
	// whole[h][i][k]: head h derives just the part from i to k.
	whole [][][]bool
	// begun[h][i]: head h derives a string that begins with the part from i to the end.
	begun [][]bool
}

func newChart(d deriver, word string) *chart {
	c := &chart{d: d, word: word}
	for h := 0; h < d.heads; h++ {
		var rows [][]bool
		for i := 0; i <= len(word); i++ {
			rows = append(rows, make([]bool, len(word)+1))
		}
		c.whole = append(c.whole, rows)
		c.begun = append(c.begun, make([]bool, len(word)+1))
	}
	for c.grow() {
	}
	return c
}

// over is where the part ends that a symbol derives from one of the places on.
func (c *chart) over(symbol byte, from []bool) []bool {
	to := make([]bool, len(c.word)+1)
	for i, in := range from {
		if !in {
			continue
		}
		if !isHeadByte(symbol) {
			if i < len(c.word) && c.word[i] == symbol {
				to[i+1] = true
			}
			continue
		}
		for k, derives := range c.whole[symbol-'A'][i] {
			to[k] = to[k] || derives
		}
	}
	return to
}

// grow goes once over all productions and places, and tells whether something is new.
func (c *chart) grow() bool {
	grown := false
	set := func(b *bool) {
		grown = grown || !*b
		*b = true
	}
	for _, p := range c.d.prods {
		h := p.head - 'A'
		for i := 0; i <= len(c.word); i++ {
			places := make([]bool, len(c.word)+1)
			places[i] = true
			for s := range p.symbols {
				// The string may go on with all the symbols that are left.
				if places[len(c.word)] {
					set(&c.begun[h][i])
				}
				for k, in := range places {
					if in && isHeadByte(p.symbols[s]) && c.begun[p.symbols[s]-'A'][k] {
						set(&c.begun[h][i])
					}
				}
				places = c.over(p.symbols[s], places)
			}
			if places[len(c.word)] {
				set(&c.begun[h][i])
			}
			for k, in := range places {
				if in {
					set(&c.whole[h][i][k])
				}
			}
		}
	}
	return grown
}

// treesOf are the texts of all trees of a part, as treeText has them, whose root is a node of the head.
func (c *chart) treesOf(head byte, from, to int) []string {
	if !c.whole[head-'A'][from][to] {
		return nil
	}
	var out []string
	for n, p := range c.d.prods {
		if p.head != head {
			continue
		}
		for _, children := range c.rowsOf(p.symbols, from, to) {
			out = append(out, fmt.Sprintf("p%d(%s)", n, strings.Join(children, " ")))
		}
	}
	return out
}

// derives: the symbols derive just the part.
func (c *chart) derives(symbols string, from, to int) bool {
	places := make([]bool, len(c.word)+1)
	places[from] = true
	for i := range symbols {
		places = c.over(symbols[i], places)
	}
	return places[to]
}

// rowsOf are all rows of trees of a part, one tree for each symbol.
func (c *chart) rowsOf(symbols string, from, to int) [][]string {
	if symbols == "" && from == to {
		return [][]string{nil}
	}
	var out [][]string
	for mid := from; mid <= to && symbols != ""; mid++ {
		if !c.derives(symbols[:1], from, mid) || !c.derives(symbols[1:], mid, to) {
			continue
		}
		firsts := []string{fmt.Sprint(symbols[0] - 'a')}
		if isHeadByte(symbols[0]) {
			firsts = c.treesOf(symbols[0], from, mid)
		}
		for _, first := range firsts {
			for _, row := range c.rowsOf(symbols[1:], mid, to) {
				out = append(out, append([]string{first}, row...))
			}
		}
	}
	return out
}

// begins: the START derives a string that begins with the word.
func (d deriver) begins(word string) bool {
	return newChart(d, word).begun[0][0]
}

// wanted is what may stand behind a word, with which some string begins.
func (d deriver) wanted(word string) []int {
	var out []int
	for t := 0; t < d.rules; t++ {
		if d.begins(word + string(rune('a'+t))) {
			out = append(out, t)
		}
	}
	if newChart(d, word).whole[0][0][len(word)] {
		out = append(out, d.rules)
	}
	return out
}

// parsed is what Parse is to answer, as a text; nothing may clash.
func (d deriver) parsed(t *testing.T, word string) string {
	if trees := newChart(d, word).treesOf('A', 0, len(word)); len(trees) > 0 {
		if len(trees) > 1 {
			t.Fatalf("%v has the trees %q of %q", d, trees, word)
		}
		return trees[0]
	}
	at := 0
	for at < len(word) && d.begins(word[:at+1]) {
		at++
	}
	return parsedText(api.Parsed{At: at, Wanted: d.wanted(word[:at])}, api.ErrSyntax)
}

func kindsOfWord(word string) []int {
	var out []int
	for i := range word {
		out = append(out, int(word[i]-'a'))
	}
	return out
}

// testChart holds Parse of a word against the chart, and tells the text.
func testChart(t *testing.T, d deriver, spec, word string) string {
	t.Helper()
	got := parsedText(grammar.Parse(spec, kindsOfWord(word)))
	if want := d.parsed(t, word); got != want {
		t.Fatalf("Parse(%q, %v) = %s, want %s", spec, kindsOfWord(word), got, want)
	}
	return got
}

// words are all words of at most so many of the rules.
func (d deriver) words(length int) []string {
	out := []string{""}
	for from := 0; length > 0; length-- {
		to := len(out)
		for _, word := range out[from:to] {
			for t := 0; t < d.rules; t++ {
				out = append(out, word+string(rune('a'+t)))
			}
		}
		from = to
	}
	return out
}

func TestParseAgainstChart(t *testing.T) {
	r := rand.New(rand.NewSource(8))
	trees := 0
	for i := 0; i < 2500; i++ {
		d := randomDeriver(r, 3, 2)
		if i%3 == 0 {
			d = randomDeriver(r, 2, 3)
		}
		spec := d.spec(r)
		clashing := len(d.clashes()) > 0
		for _, word := range d.words(4) {
			if clashing {
				testParse(t, spec, "", only(api.ErrClash))
				testParse(t, spec, "0 -1", only(api.ErrArg))
				break
			}
			if got := testChart(t, d, spec, word); got[0] == 'p' {
				trees++
			}
		}
	}
	if trees < 1000 {
		t.Errorf("only %d trees", trees)
	}
}

// orderlyDeriver has productions that seldom clash: most of a head's begin with rules of their own.
func orderlyDeriver(r *rand.Rand) deriver {
	d := deriver{rules: 2 + r.Intn(api.MaxRules-1), heads: 2 + r.Intn(api.MaxHeads-1)}
	symbols := "ABCDEFGH"[:d.heads] + strings.Repeat("abcdefgh"[:d.rules], 1+r.Intn(3))
	for h := 0; h < d.heads; h++ {
		head := byte('A' + h)
		first := r.Perm(d.rules)[:r.Intn(min(4, d.rules+1))]
		for _, t := range first {
			d.prods = append(d.prods, derived{head, string(rune('a'+t)) + noise(r, r.Intn(api.MaxSyms), symbols)})
		}
		if len(first) == 0 || r.Intn(3) == 0 {
			d.prods = append(d.prods, derived{head, noise(r, r.Intn(4), "ABCDEFGH"[:d.heads])})
		}
	}
	d.prods = d.prods[:min(len(d.prods), api.MaxProds)]
	d.heads = int(d.prods[len(d.prods)-1].head-'A') + 1
	for i, p := range d.prods {
		d.prods[i].symbols = strings.Map(func(c rune) rune {
			if isHeadByte(byte(c)) {
				return 'A' + (c-'A')%rune(d.heads)
			}
			return c
		}, p.symbols)
	}
	return d
}

// Words that are made of what is wanted next come far, and into all corners.
func TestParseAlongWhatIsWanted(t *testing.T) {
	r := rand.New(rand.NewSource(10))
	tried, trees, longest := 0, 0, 0
	for tried < 400 {
		d := orderlyDeriver(r)
		spec := d.spec(r)
		clashes, err := grammar.Clashes(spec)
		if err != api.OK {
			t.Fatalf("Clashes(%q) = %d", spec, err)
		}
		if len(clashes) > 0 {
			continue
		}
		tried++
		word := ""
		for len(word) < 14 {
			if got := testChart(t, d, spec, word); got[0] == 'p' {
				trees++
			}
			other := word + noise(r, 1+r.Intn(2), "abcdefgh"[:d.rules])
			testChart(t, d, spec, other)
			wanted := d.wanted(word)
			wanted = slices.DeleteFunc(wanted, func(n int) bool { return n == d.rules })
			if len(wanted) == 0 {
				break
			}
			word += string(rune('a' + wanted[r.Intn(len(wanted))]))
		}
		longest = max(longest, len(word))
	}
	if trees < 200 || longest < 14 {
		t.Errorf("only %d trees, the longest word has %d kinds", trees, longest)
	}
}
