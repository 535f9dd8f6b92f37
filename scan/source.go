package scan

import (
	"strconv"
	"strings"

	"pendule/api"
)

// source is what has not been scanned yet, and the position of its first byte.
type source struct {
	rest      string
	line, col int
}

// pass moves past the next n bytes.
func (s *source) pass(n int) {
	for _, c := range []byte(s.rest[:n]) {
		s.col++
		if c == '\n' {
			s.line++
			s.col = 1
		}
	}
	s.rest = s.rest[n:]
}

// skipBlanks moves past white space and comments.
func (s *source) skipBlanks() {
	for s.rest != "" {
		switch {
		case isSpace(s.rest[0]):
			s.pass(1)
		case strings.HasPrefix(s.rest, "--"):
			s.pass(commentLength(s.rest))
		default:
			return
		}
	}
}

// token returns the token that begins here; its Sort is 0 if there is none.
func (s *source) token() api.Token {
	t := api.Token{Line: s.line, Col: s.col}
	if s.rest == "" {
		t.Sort = api.TEnd
		return t
	}
	// Names, constructors, keywords and literals are valid as whole runs only: a run that is none of them is not split into shorter tokens.
	run := s.rest[:runLength(s.rest)]
	if run == "" {
		t.Text = sign(s.rest)
		if t.Text != "" {
			t.Sort = api.TSign
		}
		return t
	}
	t.Text = run
	t.Sort, t.N = classify(run)
	return t
}

// classify returns the sort of the token that run is, 0 if it is none, and the value of an integer literal.
func classify(run string) (int, int64) {
	switch {
	case IsWord(run):
		return api.TWord, 0
	case IsName(run):
		return api.TName, 0
	case IsCon(run):
		return api.TCon, 0
	}
	if n, ok := literal(run); ok {
		return api.TInt, n
	}
	return 0, 0
}

// literal returns the value of the integer literal that run is. A run has no sign, which ParseInt would take.
func literal(run string) (int64, bool) {
	if len(run) > 1 && run[0] == '0' {
		return 0, false
	}
	n, err := strconv.ParseInt(run, 10, 64)
	if err != nil {
		return 0, false
	}
	return n, true
}

// sign returns the longest sign that text begins with, or "".
func sign(text string) string {
	for _, s := range signs() {
		if strings.HasPrefix(text, s) {
			return s
		}
	}
	return ""
}

// signs returns the signs in the order in which they are tried: a longer one ahead of its own beginning.
func signs() [18]string {
	return [18]string{
		"->", "<=", "<>",
		"(", ")", "[", "]", "<", "=", ",", ";", ":", "|", "+", "-", "*", "/", "%",
	}
}

// commentLength returns the length of the comment that text begins with; the line's end is not part of it.
func commentLength(text string) int {
	if n := strings.IndexByte(text, '\n'); n >= 0 {
		return n
	}
	return len(text)
}

// isRun reports whether s is not empty, not too long for a name, and of letters, digits and underscores alone.
func isRun(s string) bool {
	return s != "" && len(s) <= api.MaxName && runLength(s) == len(s)
}

// runLength returns how many letters, digits and underscores text begins with.
func runLength(text string) int {
	n := 0
	for n < len(text) && (isSmall(text[n]) || isGreat(text[n]) || isDigit(text[n]) || text[n] == '_') {
		n++
	}
	return n
}

func isSpace(c byte) bool { return c == ' ' || c == '\t' || c == '\r' || c == '\n' }

func isSmall(c byte) bool { return 'a' <= c && c <= 'z' }

func isGreat(c byte) bool { return 'A' <= c && c <= 'Z' }

func isDigit(c byte) bool { return '0' <= c && c <= '9' }
