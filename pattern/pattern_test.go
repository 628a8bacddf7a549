package pattern_test

import (
	"testing"

	"grammar/pattern"
)

// Read stops where no pattern goes on; what may stand there is for the caller to say.
func TestReadStops(t *testing.T) {
	for _, c := range []struct {
		text string
		from int
		at   int
		ok   bool
	}{
		{"ab\n", 0, 2, true}, {"=ab*|c\nrest", 1, 6, true}, {"ab", 0, 2, true}, {"(a))", 0, 3, true}, {"a]", 0, 1, true}, {"a\x80", 0, 1, true},
		{"", 0, 0, false}, {"a|", 0, 2, false}, {"(a", 0, 2, false}, {"[a", 0, 2, false}, {"\\", 0, 1, false}, {"ab", 2, 2, false}, {"ab", 9, 9, false},
	} {
		_, at, ok := pattern.Read(c.text, c.from)
		if at != c.at || ok != c.ok {
			t.Errorf("Read(%q, %d) = %d, %v, want %d, %v", c.text, c.from, at, ok, c.at, c.ok)
		}
	}
}

func TestLongest(t *testing.T) {
	for _, c := range []struct {
		pattern, text string
		from, longest int
	}{
		{"x*", "xxy", 0, 2}, {"x*", "xxy", 1, 2}, {"x*", "xxy", 2, 2}, {"x*", "xxy", 3, 3}, {"x*", "xxy", 4, -1}, {"x*", "xxy", -2, -1},
		{"x+", "xxy", 0, 2}, {"x+", "xxy", 2, -1}, {"x+", "xxy", 3, -1}, {"xyz|x", "xy", 0, 1}, {"x", "", 0, -1}, {"x?", "", 0, 0},
	} {
		p, _, ok := pattern.Read(c.pattern, 0)
		if longest := p.Longest(c.text, c.from); !ok || longest != c.longest {
			t.Errorf("%q at %d of %q: %d, want %d", c.pattern, c.from, c.text, longest, c.longest)
		}
	}
}

func TestLongestOfNoPattern(t *testing.T) {
	if longest := (pattern.Pattern{}).Longest("", 0); longest != -1 {
		t.Errorf("a pattern that was not read matches up to %d", longest)
	}
}
