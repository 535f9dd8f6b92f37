package parse

import "pendule/api"

// maxOpen is how many unaries may be open: while so many are, none may begin.
const maxOpen = 100

// parser is what is left of a text. Whatever cannot go on panics with the fault of the next token.
type parser struct {
	tokens []api.Token // those not yet taken; the last one, the end token, is never taken
	open   int         // the unaries that are begun and not yet complete
}

func (p *parser) next() api.Token { return p.tokens[0] }

// fault returns the fault err at the next token.
func (p *parser) fault(err api.Errno) api.Fault {
	return api.Fault{Err: err, A: p.next().Line, B: p.next().Col}
}

// take returns the next token and moves past it.
func (p *parser) take() api.Token {
	t := p.next()
	p.tokens = p.tokens[1:]
	return t
}

// at reports whether the next token is the keyword or the sign given. Its text is enough to tell: no token of another sort is spelt like one.
func (p *parser) at(text string) bool { return p.next().Text == text }

// skip moves past the next token if it is the keyword or the sign given, and reports whether it was.
func (p *parser) skip(text string) bool {
	if !p.at(text) {
		return false
	}
	p.take()
	return true
}

// want moves past the keyword or the sign given, which nothing else may stand for.
func (p *parser) want(text string) {
	if !p.skip(text) {
		panic(p.fault(api.ErrSyntax))
	}
}

// text moves past a token of the sort given, which nothing else may stand for, and returns its text.
func (p *parser) text(sort int) string {
	if p.next().Sort != sort {
		panic(p.fault(api.ErrSyntax))
	}
	return p.take().Text
}

func (p *parser) name() string { return p.text(api.TName) }

func (p *parser) con() string { return p.text(api.TCon) }

func (p *parser) names() []string { return separated(p, ",", p.name) }

// statics parses static parameters or arguments, if there are any.
func (p *parser) statics() []string {
	if !p.at("[") {
		return nil
	}
	return enclosed(p, "[", p.names, "]")
}

// enclosed parses a part between two signs.
func enclosed[T any](p *parser, left string, part func() T, right string) T {
	p.want(left)
	x := part()
	p.want(right)
	return x
}

// separated parses a part, and another one behind each sep.
func separated[T any](p *parser, sep string, part func() T) []T {
	l := []T{part()}
	for p.skip(sep) {
		l = append(l, part())
	}
	return l
}

// repeated parses parts as long as the next token can begin one.
func repeated[T any](begins func() bool, part func() T) []T {
	var l []T
	for begins() {
		l = append(l, part())
	}
	return l
}
