package grammar_test

import (
	"fmt"
	"math/rand"
	"slices"
	"strings"
	"testing"

	"grammar/api"
	"grammar/grammar"
)

// deriver derives strings of symbols, a byte each: A, B, ... the heads and
// a, b, ... the rules, by their numbers. It goes from string to string, as the
// document says it, and not, as the program does, from set to set.
type deriver struct {
	rules int
	heads int
	prods []derived
	// longest bounds the strings that are looked at; it must suffice for every
	// shortest derivation.
	longest int
}

// derived is a production.
type derived struct {
	head    byte
	symbols string
}

func isHeadByte(b byte) bool { return 'A' <= b && b <= 'Z' }

// beginnings are the rules with which strings begin that the string derives,
// and whether it derives the empty string. Only the first symbol is replaced:
// what stands behind it does not hinder it.
func (d deriver) beginnings(from string) (first []bool, empty bool) {
	first = make([]bool, d.rules)
	seen := map[string]bool{from: true}
	left := []string{from}
	for len(left) > 0 {
		s := left[0]
		left = left[1:]
		if s == "" {
			empty = true
			continue
		}
		if !isHeadByte(s[0]) {
			first[s[0]-'a'] = true
			continue
		}
		for _, p := range d.prods {
			next := p.symbols + s[1:]
			if p.head == s[0] && len(next) <= d.longest && !seen[next] {
				seen[next] = true
				left = append(left, next)
			}
		}
	}
	return first, empty
}

// fruitful: a head derives a string without heads, if it derives the empty
// one where all rules are struck out.
func (d deriver) fruitful(head byte) bool {
	bare := d
	bare.prods = nil
	for _, p := range d.prods {
		symbols := strings.Map(func(c rune) rune {
			if !isHeadByte(byte(c)) {
				return -1
			}
			return c
		}, p.symbols)
		bare.prods = append(bare.prods, derived{p.head, symbols})
	}
	_, empty := bare.beginnings(string(head))
	return empty
}

// reached walks from head to head.
func (d deriver) reached(from, to byte, seen map[byte]bool) bool {
	if from == to {
		return true
	}
	seen[from] = true
	for _, p := range d.prods {
		if p.head != from {
			continue
		}
		for i := range p.symbols {
			if b := p.symbols[i]; isHeadByte(b) && !seen[b] && d.reached(b, to, seen) {
				return true
			}
		}
	}
	return false
}

// endsWith walks from head to head where nothing need stand behind the second.
func (d deriver) endsWith(from, to byte, seen map[byte]bool) bool {
	if from == to {
		return true
	}
	seen[from] = true
	for _, p := range d.prods {
		if p.head != from {
			continue
		}
		for i := range p.symbols {
			b := p.symbols[i]
			if !isHeadByte(b) || seen[b] {
				continue
			}
			if _, empty := d.beginnings(p.symbols[i+1:]); empty && d.endsWith(b, to, seen) {
				return true
			}
		}
	}
	return false
}

// follow: a rule follows a head, if it may stand behind a head that ends with it.
func (d deriver) follow(head byte) []bool {
	out := make([]bool, d.rules+1)
	out[d.rules] = d.endsWith('A', head, map[byte]bool{})
	for _, p := range d.prods {
		for i := range p.symbols {
			b := p.symbols[i]
			if !isHeadByte(b) || !d.endsWith(b, head, map[byte]bool{}) {
				continue
			}
			first, _ := d.beginnings(p.symbols[i+1:])
			for t := range first {
				out[t] = out[t] || first[t]
			}
		}
	}
	return out
}

func numbersOf(set []bool) []int {
	var out []int
	for i, in := range set {
		if in {
			out = append(out, i)
		}
	}
	return out
}

func (d deriver) sets() []api.Set {
	var out []api.Set
	for i := 0; i < d.heads; i++ {
		head := byte('A' + i)
		first, empty := d.beginnings(string(head))
		out = append(out, api.Set{Nullable: empty, First: numbersOf(first), Follow: numbersOf(d.follow(head)), Reached: d.reached('A', head, map[byte]bool{}), Fruitful: d.fruitful(head)})
	}
	return out
}

func (d deriver) ahead(p derived) []bool {
	first, empty := d.beginnings(p.symbols)
	out := append(first, false)
	if empty {
		for t, in := range d.follow(p.head) {
			out[t] = out[t] || in
		}
	}
	return out
}

func (d deriver) clashes() []api.Clash {
	var out []api.Clash
	for i, p := range d.prods {
		for k, q := range d.prods[:i] {
			if p.head != q.head {
				continue
			}
			one, other := d.ahead(p), d.ahead(q)
			for t := range one {
				if one[t] && other[t] {
					out = append(out, clash(int(p.head-'A'), t, k, i))
				}
			}
		}
	}
	slices.SortFunc(out, func(a, b api.Clash) int {
		return slices.Compare([]int{a.Head, a.Token, a.First, a.Second}, []int{b.Head, b.Token, b.First, b.Second})
	})
	return out
}

// randomDeriver has at most so many heads and symbols of a production.
func randomDeriver(r *rand.Rand, heads, symbols int) deriver {
	// A way to the first rule goes down over each head at most once, and so
	// does the way to each empty string beside it: symbols - 1 wait at each step.
	d := deriver{rules: r.Intn(4), heads: 1 + r.Intn(heads), longest: 2*heads*(symbols-1) + 1}
	ruled := 1 + r.Intn(3)
	for i := 0; i < d.heads+r.Intn(5); i++ {
		head := byte('A' + i)
		if i >= d.heads {
			head = byte('A' + r.Intn(d.heads))
		}
		var p string
		for n := r.Intn(symbols + 1); n > 0; n-- {
			if d.rules > 0 && r.Intn(4) < ruled {
				p += string(rune('a' + r.Intn(d.rules)))
			} else {
				p += string(rune('A' + r.Intn(d.heads)))
			}
		}
		d.prods = append(d.prods, derived{head, p})
	}
	return d
}

// spec is the specification of it. Rules that no production has are skipped,
// some, and the rules stand among the productions.
func (d deriver) spec(r *rand.Rand) string {
	names := r.Perm(26)
	used := ""
	for _, p := range d.prods {
		used += p.symbols
	}
	var lines []string
	for _, p := range d.prods {
		line := string(rune('A'+names[p.head-'A'])) + ":"
		for i := range p.symbols {
			b := p.symbols[i]
			base := rune('a')
			if isHeadByte(b) {
				base = 'A'
			}
			line += " " + string(base+rune(names[rune(b)-base]))
		}
		lines = append(lines, line)
	}
	at := 0
	for i := 0; i < d.rules; i++ {
		sign := "="
		if !strings.Contains(used, string(rune('a'+i))) && r.Intn(2) == 0 {
			sign = "~"
		}
		at += r.Intn(len(lines) - at + 1)
		lines = slices.Insert(lines, at, fmt.Sprintf("%c%sx", rune('a'+names[i]), sign))
		at++
	}
	return strings.Join(lines, "\n") + "\n"
}

func TestSetsAndClashesAgainstDerivations(t *testing.T) {
	r := rand.New(rand.NewSource(6))
	for i := 0; i < 6000; i++ {
		d := randomDeriver(r, 3, 2)
		if i%3 == 0 {
			d = randomDeriver(r, 2, 3)
		}
		spec := d.spec(r)
		sets, err := grammar.Sets(spec)
		want := setTexts(d.sets())
		if err != api.OK || !slices.Equal(setTexts(sets), want) {
			t.Fatalf("Sets(%q) = %q, %d, want %q", spec, setTexts(sets), err, want)
		}
		clashes, err := grammar.Clashes(spec)
		if err != api.OK || !slices.Equal(clashes, d.clashes()) {
			t.Fatalf("Clashes(%q) = %v, %d, want %v", spec, clashes, err, d.clashes())
		}
	}
}

// What Check refuses the others refuse with the same error.
func TestSetsAndClashesRefuseWhatCheckRefuses(t *testing.T) {
	r := rand.New(rand.NewSource(7))
	for i := 0; i < 3000; i++ {
		spec := damaged(r, randomDeriver(r, 3, 3).spec(r), specBytes)
		want, _ := grammar.Check(spec)
		sets, err := grammar.Sets(spec)
		if err != want || (len(sets) == 0) != (want != api.OK) {
			t.Fatalf("Sets(%q) = %v, %d, want %d", spec, sets, err, want)
		}
		clashes, err := grammar.Clashes(spec)
		if err != want || want != api.OK && len(clashes) != 0 {
			t.Fatalf("Clashes(%q) = %v, %d, want %d", spec, clashes, err, want)
		}
	}
}
