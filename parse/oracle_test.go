package parse_test

import (
	"slices"
	"strings"

	"pendule/api"
	"pendule/scan"
)

// grammar is that of the chapter, one production a line, for a recognizer that tries all of them at once and so knows nothing of greed or of the next token. A called is an atom that every may follow.
const grammar = `
<program> =
<program> = <program> <enum>
<program> = <program> <node>
<enum> = type NAME = <cons> ;
<cons> = CON
<cons> = <cons> | CON
<node> = node NAME <statics> ( <names> ) = ( <names> ) where <items> end
<statics> =
<statics> = [ <names> ]
<names> = NAME
<names> = <names> , NAME
<items> =
<items> = <items> <equation>
<items> = <items> automaton <states> end ;
<states> = <state>
<states> = <states> <state>
<state> = state CON : <equations> <ways>
<equations> =
<equations> = <equations> <equation>
<ways> =
<ways> = <ways> until <expr> then CON ;
<equation> = NAME = <expr> ;
<equation> = ( <names> ) = <expr> ;
<expr> = <follow>
<expr> = <follow> -> <expr>
<follow> = <either>
<follow> = <either> fby <follow>
<either> = <both>
<either> = <either> or <both>
<both> = <compare>
<both> = <both> and <compare>
<compare> = <sum>
<compare> = <sum> < <sum>
<compare> = <sum> <= <sum>
<compare> = <sum> = <sum>
<compare> = <sum> <> <sum>
<sum> = <product>
<sum> = <sum> + <product>
<sum> = <sum> - <product>
<product> = <unary>
<product> = <product> * <unary>
<product> = <product> / <unary>
<product> = <product> % <unary>
<unary> = not <unary>
<unary> = - <unary>
<unary> = pre <unary>
<unary> = if <expr> then <expr> else <expr>
<unary> = <sampled>
<sampled> = <atom>
<sampled> = <called>
<sampled> = <called> every <unary>
<sampled> = <sampled> when CON ( NAME )
<called> = NAME <statics> ( <exprs> )
<called> = ( <called> )
<atom> = INT
<atom> = true
<atom> = false
<atom> = CON
<atom> = NAME
<atom> = merge NAME ( <arms> )
<atom> = match NAME ( <arms> )
<atom> = ( <expr> )
<exprs> = <expr>
<exprs> = <exprs> , <expr>
<arms> = CON -> <expr>
<arms> = <arms> | CON -> <expr>
`

// rule is a production; item is one of which the first parts, as many as done, are recognized from the token begin on.
type rule struct {
	left  string
	right []string
}

type item struct{ rule, done, begin int }

// recognizer is Earley's.
type recognizer struct {
	rules []rule
	named map[string][]int
	sets  [][]item
}

func newRecognizer() *recognizer {
	g := &recognizer{named: map[string][]int{}}
	for line := range strings.Lines(strings.TrimSpace(grammar)) {
		words := strings.Fields(line)
		g.named[words[0]] = append(g.named[words[0]], len(g.rules))
		g.rules = append(g.rules, rule{words[0], words[2:]})
	}
	return g
}

// terminal returns what stands in the grammar for a token.
func terminal(t api.Token) string {
	switch {
	case t.Sort == api.TName:
		return "NAME"
	case t.Sort == api.TCon:
		return "CON"
	case t.Sort == api.TInt:
		return "INT"
	}
	return t.Text
}

// fault returns the index of the first token of l, which the end token ends, that no text of the start symbol has behind those ahead of it; or -1.
func (g *recognizer) fault(start string, l []api.Token) int {
	g.sets = make([][]item, len(l)+1)
	for _, i := range g.named[start] {
		g.add(0, item{rule: i})
	}
	for at, t := range l {
		g.complete(at)
		if t.Sort == api.TEnd {
			if g.ended(start, at) {
				return -1
			}
			return at
		}
		for _, x := range g.sets[at] {
			if g.expects(x) == terminal(t) {
				g.add(at+1, item{x.rule, x.done + 1, x.begin})
			}
		}
		if len(g.sets[at+1]) == 0 {
			return at
		}
	}
	return -1
}

func (g *recognizer) add(at int, x item) bool {
	if slices.Contains(g.sets[at], x) {
		return false
	}
	g.sets[at] = append(g.sets[at], x)
	return true
}

// expects returns what x needs next, or "" if it is complete.
func (g *recognizer) expects(x item) string {
	if r := g.rules[x.rule].right; x.done < len(r) {
		return r[x.done]
	}
	return ""
}

// complete adds to a set all that follows without another token, until nothing does any more.
func (g *recognizer) complete(at int) {
	for more := true; more; {
		more = false
		for i := 0; i < len(g.sets[at]); i++ {
			x := g.sets[at][i]
			if s := g.expects(x); s != "" {
				for _, r := range g.named[s] {
					more = g.add(at, item{r, 0, at}) || more
				}
				continue
			}
			for _, y := range g.sets[x.begin] {
				if g.expects(y) == g.rules[x.rule].left {
					more = g.add(at, item{y.rule, y.done + 1, y.begin}) || more
				}
			}
		}
	}
}

func (g *recognizer) ended(start string, at int) bool {
	return slices.ContainsFunc(g.sets[at], func(x item) bool {
		return x.begin == 0 && g.rules[x.rule].left == start && g.expects(x) == ""
	})
}

// want returns the fault of text by the grammar, if the text has tokens and not many open unaries.
func (g *recognizer) want(start, text string) api.Fault {
	l, f := scan.Scan(text)
	if f != (api.Fault{}) {
		return f
	}
	if i := g.fault(start, l); i >= 0 {
		return syntax(l[i].Line, l[i].Col)
	}
	return api.Fault{}
}
