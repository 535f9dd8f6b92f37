package sugar_test

import (
	"math/rand"
	"regexp"
	"strconv"
	"strings"
)

// maker draws texts of programs, together with the texts of their translations.
type maker struct {
	*rand.Rand
	vars     []string
	depth    int // how deep the expressions of equations are at most
	automata int
	enums    string // those of the automata so far
}

func newMaker(seed int64) *maker { return &maker{Rand: rand.New(rand.NewSource(seed))} }

// pair is a source text and that of its translation. In expressions, a $ marks each variable that sampling would replace.
type pair struct{ source, plain string }

// both returns a text that is its own translation.
func both(s string) pair { return pair{s, s} }

// fill puts the parts in the places of the @ in s.
func fill(s string, parts ...pair) pair {
	p := both(s)
	for _, q := range parts {
		p.source = strings.Replace(p.source, "@", q.source, 1)
		p.plain = strings.Replace(p.plain, "@", q.plain, 1)
	}
	return p
}

func (p pair) then(q pair) pair { return pair{p.source + q.source, p.plain + q.plain} }

func unmarked(s string) string { return strings.ReplaceAll(s, "$", "") }

func (p pair) unmarked() pair { return pair{unmarked(p.source), unmarked(p.plain)} }

// sampled returns s with its marked variables sampled by a constructor of x.
func sampled(s, x, con string) string {
	return regexp.MustCompile(`\$(\w+)`).ReplaceAllString(s, "( $1 when "+con+" ( "+x+" ) )")
}

// merged returns a merge by x of the texts, each sampled by x and its constructor.
func merged(x string, cons, l []string) string {
	var arms []string
	for i, s := range l {
		arms = append(arms, cons[i]+" -> "+sampled(s, x, cons[i]))
	}
	return "merge " + x + " ( " + strings.Join(arms, " | ") + " )"
}

func one[T any](m *maker, l ...T) T { return l[m.Intn(len(l))] }

func (m *maker) cons() []string {
	return one(m, []string{"False", "True"}, []string{"Red", "Green", "Blue"}, []string{"One"})
}

// expr draws an expression; a sealed one has no samples, merges and matches.
func (m *maker) expr(depth int, sealed bool) pair {
	kid := func() pair { return m.expr(depth-1, sealed) }
	kinds := 21
	if sealed {
		kinds = 15
	}
	if depth <= 1 {
		kinds = 5
	}
	switch m.Intn(kinds) {
	case 0:
		return both(one(m, "0", "7", "true", "false"))
	case 1:
		return both(m.cons()[0])
	case 2, 3, 4:
		return both("$" + one(m, m.vars...))
	case 5, 6:
		return fill(one(m, "( not @ )", "( - @ )", "( pre @ )"), kid())
	case 7, 8, 9:
		return fill(one(m, "( @ + @ )", "( @ and @ )", "( @ <= @ )", "( @ fby @ )", "( @ -> @ )"), kid(), kid())
	case 10:
		return fill("( if @ then @ else @ )", kid(), kid(), kid())
	case 11, 12, 13:
		return m.call(kid)
	case 14:
		return fill("( @ every @ )", m.call(kid), kid())
	case 15, 16:
		return fill("( @ when "+m.cons()[0]+" ( "+one(m, m.vars...)+" ) )", kid())
	case 17:
		return m.merge(kid)
	}
	return m.match(depth)
}

// call draws a call with one result.
func (m *maker) call(kid func() pair) pair {
	if m.Intn(3) == 0 {
		return fill("g ( @ , @ )", kid(), kid())
	}
	return fill(one(m, "inc ( @ )", "twice [ inc ] ( @ )", "twice [ g ] ( @ )", "g ( @ )"), kid())
}

func (m *maker) merge(kid func() pair) pair {
	var arms []pair
	var l []string
	for _, c := range m.cons() {
		arms = append(arms, kid())
		l = append(l, c+" -> @")
	}
	return fill("merge "+one(m, m.vars...)+" ( "+strings.Join(l, " | ")+" )", arms...)
}

func (m *maker) match(depth int) pair {
	x, cons := one(m, m.vars...), m.cons()
	var arms, l []string
	for _, c := range cons {
		e := m.expr(depth-1, true).source
		arms = append(arms, e)
		l = append(l, c+" -> "+e)
	}
	return pair{"match " + x + " ( " + strings.Join(l, " | ") + " )", merged(x, cons, arms)}
}

// automaton draws an automaton that defines the names.
func (m *maker) automaton(names []string) pair {
	k := strconv.Itoa(m.automata)
	m.automata++
	var states []string
	for i := range 1 + m.Intn(4) {
		states = append(states, "S"+k+one(m, "", "a", "_x")+strconv.Itoa(i))
	}
	m.enums += "type _t" + k + " = " + strings.Join(states, " | ") + " ; "
	source, next, defined := "automaton ", []string{}, make([][]string, len(names))
	for i, s := range states {
		source += "state " + s + " : "
		order := m.Perm(len(names))
		if i == 0 {
			order = inOrder(len(names))
		}
		for _, j := range order {
			e := m.expr(m.depth, true).source
			defined[j] = append(defined[j], e)
			source += names[j] + " = " + unmarked(e) + " ; "
		}
		ways, e := m.ways(s, states)
		source += ways
		next = append(next, e)
	}
	plain := "_s" + k + " = ( " + states[0] + " fby _n" + k + " ) ; "
	for j, name := range names {
		plain += name + " = " + merged("_s"+k, states, defined[j]) + " ; "
	}
	return pair{source + "end ; ", plain + "_n" + k + " = " + merged("_s"+k, states, next) + " ; "}
}

func inOrder(n int) []int {
	var l []int
	for i := range n {
		l = append(l, i)
	}
	return l
}

// ways draws transitions of the state from, and returns them and the expression of the next state.
func (m *maker) ways(from string, states []string) (string, string) {
	text, before, behind := "", "", ""
	for range m.Intn(5) {
		c, to := m.expr(2, true).source, one(m, states...)
		text += "until " + unmarked(c) + " then " + to + " ; "
		before += "( if " + c + " then " + to + " else "
		behind += " )"
	}
	return text, before + from + behind
}

// item draws an item that defines the names.
func (m *maker) item(names []string) pair {
	switch {
	case m.Intn(3) == 0:
		return m.automaton(names)
	case len(names) == 1:
		return fill(names[0]+" = @ ; ", m.expr(m.depth, false)).unmarked()
	case len(names) == 2:
		left := "( " + strings.Join(names, " , ") + " ) = "
		text := left + one(m, "two ( @ , @ ) ; ", "( two ( @ , @ ) every @ ) ; ", "( g ( @ , @ ) every @ ) ; ")
		return fill(text, m.expr(m.depth, false), m.expr(m.depth, false), m.expr(2, false)).unmarked()
	}
	return m.automaton(names)
}

// node draws the items of a node, and returns it.
func (m *maker) node(name string) pair {
	names := []string{"y", "a", "b", "d", "e"}[:1+m.Intn(5)]
	m.vars = append([]string{"x", "c"}, names...)
	n := both("node " + name + " [ g , h ] ( x , c ) = ( y ) where ")
	for len(names) > 0 {
		if m.Intn(8) == 0 {
			n = n.then(m.automaton(nil))
		}
		own := names[:1+m.Intn(min(3, len(names)))]
		names = names[len(own):]
		n = n.then(m.item(own))
	}
	return n.then(both("end "))
}

// program draws a program.
func (m *maker) program() pair {
	m.depth, m.automata, m.enums = 2+m.Intn(8), 0, ""
	p := both(nodes)
	for k := range 1 + m.Intn(3) {
		p = p.then(m.node("f" + strconv.Itoa(k)))
	}
	return pair{types + p.source, types + m.enums + p.plain}
}
