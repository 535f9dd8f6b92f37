// Package scan is layer 1: it splits a source text into tokens and records where each of them stands. See shared/doc/01-scan.md.
package scan

import (
	"strings"

	"pendule/api"
)

// Scan returns the tokens of text, followed by the end token, or the fault at the first position at which no valid token begins.
func Scan(text string) ([]api.Token, api.Fault) {
	if len(text) > api.MaxBytes {
		return nil, api.Fault{Err: api.ErrBound}
	}
	// The tokens' texts are pieces of what is scanned; a copy, because an answer shares no memory with an argument.
	s := source{rest: strings.Clone(text), line: 1, col: 1}
	var l []api.Token
	for {
		s.skipBlanks()
		t := s.token()
		if t.Sort == 0 {
			return nil, api.Fault{Err: api.ErrLex, A: s.line, B: s.col}
		}
		l = append(l, t)
		if t.Sort == api.TEnd {
			return l, api.Fault{}
		}
		s.pass(len(t.Text))
	}
}

// IsName reports whether s is a name and not a keyword.
func IsName(s string) bool {
	return isRun(s) && isSmall(s[0]) && !IsWord(s)
}

// IsCon reports whether s is a constructor.
func IsCon(s string) bool {
	return isRun(s) && isGreat(s[0])
}

// IsWord reports whether s is a keyword.
func IsWord(s string) bool {
	switch s {
	case "type", "node", "where", "end", "automaton", "state", "until",
		"then", "if", "else", "fby", "pre", "not", "and", "or",
		"when", "merge", "match", "every", "true", "false":
		return true
	}
	return false
}

// Spell returns the Texts of l, with one space between any two of them.
func Spell(l []api.Token) string {
	var b strings.Builder
	for i, t := range l {
		if i > 0 {
			b.WriteByte(' ')
		}
		b.WriteString(t.Text)
	}
	return b.String()
}
