package grammar_test

import (
	"fmt"
	"slices"
	"strconv"
	"strings"
	"testing"

	"grammar/api"
	"grammar/grammar"
)

// kindList is the numbers in a text with blanks between them.
func kindList(text string) []int {
	var out []int
	for _, word := range strings.Fields(text) {
		n, _ := strconv.Atoi(word)
		out = append(out, n)
	}
	return out
}

// treeText is nodes as one text: a leaf as its rule, any other node as p and its
// production, and its children in brackets. It is "?" if the sizes or places do
// not fit, so that it says all that is in the nodes.
func treeText(nodes []api.Node) string {
	leaves := 0
	text, rest := subtreeText(nodes, &leaves)
	if len(rest) > 0 || strings.Contains(text, "?") {
		return fmt.Sprintf("? %v", nodes)
	}
	return text
}

// subtreeText is the first node with all that is under it, and what is behind it.
func subtreeText(nodes []api.Node, leaves *int) (string, []api.Node) {
	if len(nodes) == 0 || nodes[0].Size < 1 || nodes[0].Size > len(nodes) || nodes[0].At != *leaves {
		return "?", nil
	}
	top, under, rest := nodes[0], nodes[1:nodes[0].Size], nodes[nodes[0].Size:]
	if top.Prod == -1 {
		*leaves++
		if top.Kind < 0 || top.Size != 1 {
			return "?", nil
		}
		return strconv.Itoa(top.Kind), rest
	}
	if top.Prod < 0 || top.Kind != -1 {
		return "?", nil
	}
	var children []string
	for len(under) > 0 {
		var child string
		child, under = subtreeText(under, leaves)
		children = append(children, child)
	}
	return fmt.Sprintf("p%d(%s)", top.Prod, strings.Join(children, " ")), rest
}

// parsedText is all that Parse answers as one text.
func parsedText(p api.Parsed, err api.Errno) string {
	if err == api.OK && p.At == 0 && len(p.Wanted) == 0 {
		return treeText(p.Nodes)
	}
	out := fmt.Sprintf("error %d at %d wanted", err, p.At)
	for _, t := range p.Wanted {
		out += fmt.Sprintf(" %d", t)
	}
	if len(p.Nodes) > 0 {
		out += fmt.Sprintf(" nodes %v", p.Nodes)
	}
	return out
}

// wrong is the text of ErrSyntax at a place, with what is wanted there.
func wrong(at int, wanted string) string {
	return strings.TrimRight(fmt.Sprintf("error 10 at %d wanted %s", at, wanted), " ")
}

// only is the text of an error beside which there is nothing else.
func only(err api.Errno) string { return fmt.Sprintf("error %d at 0 wanted", err) }

func testParse(t *testing.T, spec string, kinds string, want string) {
	t.Helper()
	got := parsedText(grammar.Parse(spec, kindList(kinds)))
	if got != want {
		t.Errorf("Parse(%.150q, %s) = %s, want %s", spec, kinds, got, want)
	}
}

const endless = "a=a\nS: a T\nT: a T\n"

func TestParseExamples(t *testing.T) {
	testParse(t, endless, "0 0 0", wrong(3, "0"))
	testParse(t, sums, "0", "p0(p3(0) p2())")
	p, err := grammar.Parse(sums, []int{0})
	want := []api.Node{{Prod: 0, Kind: -1, At: 0, Size: 4}, {Prod: 3, Kind: -1, At: 0, Size: 2}, {Prod: -1, Kind: 0, At: 0, Size: 1}, {Prod: 2, Kind: -1, At: 1, Size: 1}}
	if err != api.OK || !slices.Equal(p.Nodes, want) {
		t.Errorf("Parse(SUMS, [0]) = %v, %d, want %v", p, err, want)
	}
	testParse(t, sums, "0 0", wrong(1, "1 5"))
	testParse(t, sums, "2 0", wrong(2, "1 3"))
	testParse(t, sums, "", wrong(0, "0 2"))
	testParse(t, sums, "4", wrong(0, "0 2"))
	testParse(t, sums, "5", only(api.ErrArg))
}

func TestParseTrees(t *testing.T) {
	testParse(t, sums, "0 1 0", "p0(p3(0) p1(1 p3(0) p2()))")
	testParse(t, sums, "0 1 0 1 0", "p0(p3(0) p1(1 p3(0) p1(1 p3(0) p2())))")
	testParse(t, sums, "2 0 3", "p0(p4(2 p0(p3(0) p2()) 3) p2())")
	testParse(t, sums, "2 2 0 3 1 0 3", "p0(p4(2 p0(p4(2 p0(p3(0) p2()) 3) p1(1 p3(0) p2())) 3) p2())")
	testParse(t, "a=a\nS: a\n", "0", "p0(0)")
	testParse(t, "a=a\nb=b\nS: a b a\n", "0 1 0", "p0(0 1 0)")
	testParse(t, "a=a\nb=b\nS: a S b\nS:\n", "0 0 1 1", "p0(0 p0(0 p1() 1) 1)")
	// The production is found however many there are of the head, and in whatever order.
	choices := "a=a\nb=b\nc=c\nS: c\nT: a S\nS: b T\nS: a\nT: b\nS:\n"
	testParse(t, choices, "2", "p0(2)")
	testParse(t, choices, "1 1", "p2(1 p4(1))")
	testParse(t, choices, "1 0 0", "p2(1 p1(0 p3(0)))")
	testParse(t, choices, "1 0", "p2(1 p1(0 p5()))")
	testParse(t, choices, "", "p5()")
	// Rules stand anywhere, some are skipped, and all have their numbers.
	testParse(t, "S: b T\nx~x\nT: a\na=a\nT: b T\nb=b\n", "2 2 1", "p0(2 p2(2 p1(1)))")
}

func TestParseOfNoKinds(t *testing.T) {
	for _, kinds := range [][]int{nil, {}} {
		for _, c := range []struct{ spec, want string }{
			{"S:\n", "p0()"}, {"a=a\nS:\n", "p0()"}, {"a=a\nS: a\nS:\n", "p1()"}, {"S: T\nT:\n", "p0(p1())"}, {"S: T T\nT:\n", "p0(p1() p1())"},
			{"S: T U\nT: U U\nU:\n", "p0(p1(p2() p2()) p2())"},
			{"a=a\nS: a\n", wrong(0, "0")}, {"S: S\n", wrong(0, "")}, {"a=a\nS: S a\n", wrong(0, "")}, {"a=a\nS: T a\nT:\n", wrong(0, "0")}, {sums, wrong(0, "0 2")},
		} {
			if got := parsedText(grammar.Parse(c.spec, kinds)); got != c.want {
				t.Errorf("Parse(%q, %v) = %s, want %s", c.spec, kinds, got, c.want)
			}
		}
	}
}

const letters = "a=a\nb=b\nc=c\n"

func TestParseOfHeadsThatDeriveTheEmptyString(t *testing.T) {
	maybe := letters + "S: A B c\nA:\nA: a\nB:\nB: b\n"
	testParse(t, maybe, "2", "p0(p1() p3() 2)")
	testParse(t, maybe, "0 2", "p0(p2(0) p3() 2)")
	testParse(t, maybe, "1 2", "p0(p1() p4(1) 2)")
	testParse(t, maybe, "0 1 2", "p0(p2(0) p4(1) 2)")
	testParse(t, maybe, "", wrong(0, "0 1 2"))
	testParse(t, maybe, "0", wrong(1, "1 2"))
	testParse(t, maybe, "0 0", wrong(1, "1 2"))
	testParse(t, maybe, "1 0", wrong(1, "2"))
	testParse(t, maybe, "1 1", wrong(1, "2"))
	testParse(t, maybe, "2 2", wrong(1, "3"))
	testParse(t, maybe, "0 1 2 0", wrong(3, "3"))
	tail := letters + "S: a S B\nS:\nB: A\nA:\n"
	testParse(t, tail, "0 0", "p0(0 p0(0 p1() p2(p3())) p2(p3()))")
	testParse(t, tail, "0 1", wrong(1, "0 3"))
	// The chosen production begins with heads that derive the empty string only.
	deep := letters + "S: N T\nT: N N c S\nT: N M a\nN: M M\nM:\n"
	n := "p3(p4() p4())"
	testParse(t, deep, "0", "p0("+n+" p2("+n+" p4() 0))")
	testParse(t, deep, "2 0", "p0("+n+" p1("+n+" "+n+" 2 p0("+n+" p2("+n+" p4() 0))))")
	testParse(t, deep, "2", wrong(1, "0 2"))
}

// What may follow a head elsewhere is not wanted here.
func TestParseWantedHere(t *testing.T) {
	two := letters + "S: a A b\nS: b A c\nA:\n"
	testParse(t, two, "0", wrong(1, "1"))
	testParse(t, two, "0 2", wrong(1, "1"))
	testParse(t, two, "0 0", wrong(1, "1"))
	testParse(t, two, "1", wrong(1, "2"))
	testParse(t, two, "1 1", wrong(1, "2"))
	testParse(t, two, "0 1 1", wrong(2, "3"))
	testParse(t, two, "1 2", "p1(1 p2() 2)")
	// So that the first wrong kind is found ahead of what it would seem to close.
	closed := letters + "S: a L b\nS: c L\nL: M\nM: N\nN: a N\nN:\n"
	testParse(t, closed, "2 0", "p1(2 p2(p3(p4(0 p5()))))")
	testParse(t, closed, "2 0 1", wrong(2, "0 3"))
	testParse(t, closed, "0 0", wrong(2, "0 1"))
	testParse(t, closed, "0 0 2 0", wrong(2, "0 1"))
	testParse(t, closed, "0 1 1", wrong(2, "3"))
	// What stands behind a head that is not reached, or in one, is wanted nowhere.
	testParse(t, letters+"S: a T\nT: b\nT:\nU: T c\n", "0 2", wrong(1, "1 3"))
	testParse(t, letters+"S: a\nU: b S c\n", "0 2", wrong(1, "3"))
	testParse(t, letters+"S: a\nU: b S c\n", "1", wrong(0, "0"))
}

func TestParseWantedEnd(t *testing.T) {
	testParse(t, "a=a\nS:\n", "0", wrong(0, "1"))
	testParse(t, "a=a\nx~x\nS:\n", "1 0", wrong(0, "2"))
	testParse(t, "a=a\nS: a a\n", "0 0 0", wrong(2, "1"))
	testParse(t, "a=a\nS: a a\n", "0 0 0 0", wrong(2, "1"))
	testParse(t, "a=a\nS: a a\n", "0", wrong(1, "0"))
	testParse(t, "a=a\nb=b\nS: a S\nS:\n", "0 0 1 0", wrong(2, "0 2"))
	testParse(t, "a=a\nb=b\nS: a T\nT: a S\nT: b\nS:\n", "0 0 1", wrong(2, "0 2"))
	testParse(t, "a=a\nb=b\nS: a T\nT: a S\nT: b\nS:\n", "0", wrong(1, "0 1"))
	testParse(t, sums, "2 0 3 3", wrong(3, "1 5"))
	testParse(t, sums, "2 2 0 3 1 1 0", wrong(5, "0 2"))
	testParse(t, sums, "0 1 0 2", wrong(3, "1 5"))
	// A kind that is skipped is never wanted, and stops the string where it stands.
	testParse(t, sums, "0 4 1", wrong(1, "1 5"))
	testParse(t, sums, "0 1 0 4", wrong(3, "1 5"))
}

// At is where no string can go on, though it may be that none comes to an end.
func TestParseNotFruitful(t *testing.T) {
	testParse(t, endless, "", wrong(0, "0"))
	testParse(t, endless, "0", wrong(1, "0"))
	testParse(t, "a=a\nb=b\nS: a T\nT: a T\n", "0 0 1 0", wrong(2, "0"))
	testParse(t, "a=a\nS: S a\n", "0", wrong(0, ""))
	testParse(t, "a=a\nS: S a\n", "0 0", wrong(0, ""))
	testParse(t, "a=a\nS: S\n", "0", wrong(0, ""))
	testParse(t, "a=a\nS: S S\n", "0", wrong(0, ""))
	testParse(t, "a=a\nA: B\nB: A\n", "0", wrong(0, ""))
	once := letters + "S: a T\nS: b\nT: T\n"
	testParse(t, once, "", wrong(0, "0 1"))
	testParse(t, once, "0", wrong(1, ""))
	testParse(t, once, "0 1", wrong(1, ""))
	testParse(t, once, "1", "p1(1)")
	testParse(t, once, "1 0", wrong(1, "3"))
	// Ahead of such a head things can be left out, behind it nothing is wanted.
	behind := letters + "S: a N T b\nN: c\nN:\nT: T\n"
	testParse(t, behind, "0", wrong(1, "2"))
	testParse(t, behind, "0 1", wrong(1, "2"))
	testParse(t, behind, "0 2", wrong(2, ""))
	testParse(t, behind, "0 2 1", wrong(2, ""))
	// Two productions that derive the empty string, where nothing follows.
	testParse(t, "a=a\nb=b\nS: a N T\nS: b\nN:\nN: M\nM:\nT: T\n", "0 0", wrong(1, ""))
	testParse(t, "a=a\nS: T\nS:\nT: T a\n", "", "p1()")
	testParse(t, "a=a\nS: T\nS:\nT: T a\n", "0", wrong(0, "1"))
	testParse(t, letters+"S: a T U\nT: b T\nT:\nU: c U\n", "0 1 1 2 2 1", wrong(5, "2"))
	testParse(t, letters+"S: a T U\nT: b T\nT:\nU: c U\n", "0 1 1", wrong(3, "1 2"))
}

func TestParseLimitOfKinds(t *testing.T) {
	row := "a=a\nS: a S\nS:\n"
	whole := func(n int) string {
		return strings.Repeat("p0(0 ", n) + "p1()" + strings.Repeat(")", n)
	}
	zeros := func(n int) string { return strings.Repeat("0 ", n) }
	testParse(t, row, zeros(api.MaxWord-1), whole(api.MaxWord-1))
	testParse(t, row, zeros(api.MaxWord), whole(api.MaxWord))
	testParse(t, row, zeros(api.MaxWord+1), only(api.ErrLong))
	testParse(t, endless, zeros(api.MaxWord), wrong(api.MaxWord, "0"))
	testParse(t, "a=a\nb=b\nS: a S\nS:\n", zeros(api.MaxWord-1)+"1", wrong(api.MaxWord-1, "0 2"))
	nested := "a=a\nb=b\nS: a S b\nS:\n"
	half := api.MaxWord / 2
	testParse(t, nested, zeros(half)+strings.Repeat("1 ", half), strings.Repeat("p0(0 ", half)+"p1()"+strings.Repeat(" 1)", half))
	testParse(t, nested, zeros(half-1)+strings.Repeat("1 ", half), wrong(2*half-2, "2"))
	testParse(t, nested, zeros(api.MaxWord), wrong(api.MaxWord, "0 1"))
	if p, err := grammar.Parse(row, make([]int, 1<<20)); err != api.ErrLong || len(p.Nodes) > 0 {
		t.Errorf("Parse of very many kinds = %v, %d", p, err)
	}
}

func TestParseLimitsOfSpecs(t *testing.T) {
	rules := numbered("%=x\n", 'a', api.MaxRules)
	testParse(t, rules+"S: a S\nS: b S\nS: c S\nS: d S\nS: e S\nS: f S\nS: g S\nS: h\nS:\n", "6 5 4 3 2 1 0 7 0", wrong(8, "8"))
	testParse(t, rules+"S: T\nT: a S\nT: b S\nT: c S\nT: d S\nT: e S\nT: f S\nT: g S\nT: h U\nT:\nU:\n", "6 7 0", wrong(2, "8"))
	testParse(t, rules+"S: T\nT: a S\nT: b S\nT: c S\nT: d S\nT: e S\nT: f S\nT: g S\nT: h S\nT:\n", "6", "p0(p7(6 p0(p9())))")
	testParse(t, rules+"S: T a\nT: b\nT: c\nT: d\nT: e\nT: f\nT: g\nT: h\nT:\n", "", wrong(0, "0 1 2 3 4 5 6 7"))
	testParse(t, rules+"S:\n", "7", wrong(0, "8"))
	testParse(t, rules+"S:\n", "8", only(api.ErrArg))
	testParse(t, "a=a\nS: a a a a a a\n", "0 0 0 0 0 0", "p0(0 0 0 0 0 0)")
	testParse(t, "a=a\nA: B B B B B B\nB: a\n", "0 0 0 0 0 0", "p0(p1(0) p1(0) p1(0) p1(0) p1(0) p1(0))")
	testParse(t, "a=a\nA: B\nB: C\nC: D\nD: E\nE: F\nF: G\nG: H\nH: a\nH:\n", "0", "p0(p1(p2(p3(p4(p5(p6(p7(0))))))))")
	testParse(t, "a=a\nA: B\nB: C\nC: D\nD: E\nE: F\nF: G\nG: H\nH: a\nH:\n", "", "p0(p1(p2(p3(p4(p5(p6(p8())))))))")
	// The last production that there may be.
	many := rules + "S: a T\nS: b T\nS: c T\nS: d T\nS: e T\nS: f T\nT: a U\nT: b U\nT: c U\nT: d U\nT: e U\nT: f U\nU: a\nU: b\nU: c\nU: d\nU: e\nU: f\nU: g\nU: h\n"
	testParse(t, many, "5 5 7", "p5(5 p11(5 p19(7)))")
	testParse(t, many, "5 5", wrong(2, "0 1 2 3 4 5 6 7"))
	testParse(t, many, "0 6", wrong(1, "0 1 2 3 4 5"))
	testParse(t, many+"U:\n", "0", only(api.ErrMany))
	long := "a=" + strings.Repeat("x", api.MaxSpec-8) + "\nS: a\n"
	testParse(t, long, "0", "p0(0)")
	testParse(t, long[:2]+"x"+long[2:], "0", only(api.ErrLong))
}

// emptyTree is how many nodes the tree of the empty string has, where each of
// so many heads has six of the next.
func emptyTree(heads int) int {
	size := 1
	for ; heads > 1; heads-- {
		size = 1 + api.MaxSyms*size
	}
	return size
}

// Heads that derive the empty string make the greatest trees.
func TestParseGreatTrees(t *testing.T) {
	chain := "T: U U U U U U\nU: V V V V V V\nV: W W W W W W\nW: X X X X X X\nX: Y Y Y Y Y Y\nY: Z Z Z Z Z Z\nZ:\n"
	p, err := grammar.Parse("S: T T T T T T\n"+chain, nil)
	if err != api.OK || len(p.Nodes) != emptyTree(8) {
		t.Fatalf("%d nodes, %d, want %d", len(p.Nodes), err, emptyTree(8))
	}
	depth := []int{}
	for i, node := range p.Nodes {
		for len(depth) > 0 && i >= depth[len(depth)-1] {
			depth = depth[:len(depth)-1]
		}
		want := api.Node{Prod: len(depth), Kind: -1, At: 0, Size: emptyTree(8 - len(depth))}
		if node != want {
			t.Fatalf("node %d is %v, want %v", i, node, want)
		}
		depth = append(depth, i+node.Size)
	}
	most := "a=a\nS: a S T T T T\nS: T T T T T T\n" + chain
	p, err = grammar.Parse(most, make([]int, api.MaxWord))
	want := api.MaxWord*(2+4*emptyTree(7)) + 1 + 6*emptyTree(7)
	if err != api.OK || len(p.Nodes) != want || p.Nodes[0].Size != want {
		t.Errorf("%d nodes, %d, want %d", len(p.Nodes), err, want)
	}
	testParse(t, "b=b\n"+most, strings.Repeat("1 ", api.MaxWord-1)+"0", wrong(api.MaxWord-1, "1 2"))
}

func TestParseErrors(t *testing.T) {
	clashing := "a=a\nS: a S\nS: a\n"
	tooMany := strings.Repeat("9 ", api.MaxWord+1)
	for _, c := range wrongSpecs() {
		testParse(t, c.spec, "", only(c.err))
		testParse(t, c.spec, "0", only(c.err))
		testParse(t, c.spec, "9 -1", only(c.err))
		testParse(t, c.spec, tooMany, only(api.ErrLong))
	}
	testParse(t, sums, tooMany, only(api.ErrLong))
	testParse(t, clashing, tooMany, only(api.ErrLong))
	for _, kinds := range []string{"1", "-1", "0 1", "0 0 -1 0", "9223372036854775807", "-9223372036854775808", "256", "4294967296"} {
		testParse(t, clashing, kinds, only(api.ErrArg))
		testParse(t, "a=a\nS:\n", kinds, only(api.ErrArg))
		testParse(t, "a=a\nS: a S\nS:\n", kinds, only(api.ErrArg))
	}
	testParse(t, "S:\n", "0", only(api.ErrArg))
	testParse(t, "S:\nS:\n", "0", only(api.ErrArg))
	testParse(t, clashing, "", only(api.ErrClash))
	testParse(t, clashing, "0", only(api.ErrClash))
	testParse(t, "a=a\nb=b\nS: a S\nS: a\n", "1", only(api.ErrClash))
	testParse(t, "S:\nS:\n", "", only(api.ErrClash))
	testParse(t, "a=a\nS: A a\nA: a\nA:\n", "0 0", only(api.ErrClash))
	// Clashes of heads that the string does not need, or that are not reached.
	testParse(t, "a=a\nb=b\nS: a\nS: b T\nT: a\nT: a\n", "0", only(api.ErrClash))
	testParse(t, "a=a\nS: a\nT: a\nT: a\n", "0", only(api.ErrClash))
	testParse(t, "a=a\nS: a\nT:\nT:\n", "0", "p0(0)")
}

func TestParseLeavesKindsAsTheyAre(t *testing.T) {
	for _, text := range []string{"", "0", "0 1 0", "2 0 3", "0 0", "2 0", "5", "0 -1", strings.Repeat("0 1 ", 29) + "0"} {
		room := append(kindList(text), -5, -6, -7, -8)
		kept := slices.Clone(room)
		kinds := room[:len(room)-4]
		p, _ := grammar.Parse(sums, kinds)
		if !slices.Equal(room, kept) {
			t.Errorf("Parse(SUMS, %s) wrote into its kinds: %v", text, room)
		}
		want := parsedText(p, api.OK)
		for i := range room {
			room[i] = 77
		}
		if got := parsedText(p, api.OK); got != want {
			t.Errorf("Parse(SUMS, %s): what was written into the kinds shows in the answer: %s, want %s", text, got, want)
		}
	}
}

// overwrite fills lists and their spare room.
func overwrite(nodes []api.Node, wanted []int, with int) {
	nodes = nodes[:cap(nodes)]
	for i := range nodes {
		nodes[i] = api.Node{Prod: with, Kind: with, At: with, Size: with}
	}
	wanted = wanted[:cap(wanted)]
	for i := range wanted {
		wanted[i] = with
	}
}

// holds tells whether lists and their spare room are filled just so.
func holds(nodes []api.Node, wanted []int, with int) bool {
	for _, node := range nodes[:cap(nodes)] {
		if node != (api.Node{Prod: with, Kind: with, At: with, Size: with}) {
			return false
		}
	}
	for _, number := range wanted[:cap(wanted)] {
		if number != with {
			return false
		}
	}
	return true
}

func TestParsedIsFresh(t *testing.T) {
	for _, text := range []string{"", "0", "0 1 0", "2 2 0 3 3", "0 0", "2 0", "0 1", strings.Repeat("0 1 ", 29) + "0"} {
		first, err := grammar.Parse(sums, kindList(text))
		want := parsedText(first, err)
		second, err := grammar.Parse(sums, kindList(text))
		overwrite(first.Nodes, first.Wanted, -7)
		if got := parsedText(second, err); got != want {
			t.Errorf("Parse(SUMS, %s) = %s where another answer was written into, want %s", text, got, want)
		}
		overwrite(second.Nodes, second.Wanted, -8)
		if !holds(first.Nodes, first.Wanted, -7) || !holds(second.Nodes, second.Wanted, -8) {
			t.Errorf("Parse(SUMS, %s): two answers share room", text)
		}
		if got := parsedText(grammar.Parse(sums, kindList(text))); got != want {
			t.Errorf("Parse(SUMS, %s) = %s behind others that were written into, want %s", text, got, want)
		}
	}
}
