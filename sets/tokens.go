package sets

import "grammar/api"

// tokens is a set of rules and of the END: for each number whether it is in it.
type tokens [api.MaxRules + 1]bool

// has tells whether a number is in the set.
func (t tokens) has(number int) bool {
	return number >= 0 && number < len(t) && t[number]
}

// with is the set and a number.
func (t tokens) with(number int) tokens {
	if number >= 0 && number < len(t) {
		t[number] = true
	}
	return t
}

// union is all that is in either set.
func (t tokens) union(other tokens) tokens {
	for i := range t {
		t[i] = t[i] || other[i]
	}
	return t
}

// list is the numbers in the set, rising. It is made anew each time, for it goes to the caller.
func (t tokens) list() []int {
	var numbers []int
	for i := range t {
		if t[i] {
			numbers = append(numbers, i)
		}
	}
	return numbers
}
