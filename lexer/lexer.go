// Package lexer: cutting a text into tokens.
package lexer

import (
	"grammar/api"
	"grammar/sheet"
)

// Cut cuts the input into the tokens of the rules and leaves out those that
// are skipped; or it answers ErrLex and the place at which no rule matches.
func Cut(rules []sheet.Line, input string) ([]api.Token, api.Errno, int) {
	var tokens []api.Token
	at := 0
	for at < len(input) {
		token := longest(rules, input, at)
		if token.To <= at {
			return nil, api.ErrLex, at
		}
		if !isSkipped(rules, token.Rule) {
			tokens = append(tokens, token)
		}
		at = token.To
	}
	return tokens, api.OK, 0
}

// longest is the longest token at a place, of the first rule that has it. If
// there is none, it ends where it begins.
func longest(rules []sheet.Line, input string, at int) api.Token {
	best := api.Token{From: at, To: at}
	for i := range rules {
		to := rules[i].Pattern.Longest(input, at)
		if to > best.To {
			best = api.Token{Rule: i, From: at, To: to}
		}
	}
	return best
}

func isSkipped(rules []sheet.Line, rule int) bool {
	return rule >= 0 && rule < len(rules) && rules[rule].Skipped
}
