package parse

import "pendule/api"

// The binding strengths of operators with two operands, from the weakest one on, and of what is stronger than all of them.
const (
	noOperator = iota
	arrows
	delays
	disjunctions
	conjunctions
	comparisons
	sums
	products
	unaries
)

// strength returns the binding strength of the operator with this text.
func strength(text string) int {
	switch text {
	case "->":
		return arrows
	case "fby":
		return delays
	case "or":
		return disjunctions
	case "and":
		return conjunctions
	case "<", "<=", "=", "<>":
		return comparisons
	case "+", "-":
		return sums
	case "*", "/", "%":
		return products
	}
	return noOperator
}

func (p *parser) expr() api.Expr { return p.operation(arrows) }

// operation parses operands of more than the strength given, with operators of this strength between them.
func (p *parser) operation(s int) api.Expr {
	if s == unaries {
		return p.unary()
	}
	e := p.operation(s + 1)
	for strength(p.next().Text) == s {
		operator := p.take().Text
		switch s {
		case arrows, delays:
			return operate(operator, e, p.operation(s))
		case comparisons:
			return operate(operator, e, p.operation(s+1))
		}
		e = operate(operator, e, p.operation(s+1))
	}
	return e
}

// operate returns the expression of an operator between two operands.
func operate(operator string, a, b api.Expr) api.Expr {
	kids := []api.Expr{a, b}
	switch operator {
	case "->":
		return api.Expr{Op: api.Arrow, Kids: kids}
	case "fby":
		return api.Expr{Op: api.Fby, Kids: kids}
	}
	return api.Expr{Op: api.Bin, Name: operator, Kids: kids}
}

func (p *parser) unary() api.Expr {
	if p.open == maxOpen {
		panic(p.fault(api.ErrBound))
	}
	p.open++
	e := p.prefixed()
	p.open--
	return e
}

// prefixed parses a unary that may be begun.
func (p *parser) prefixed() api.Expr {
	switch p.next().Text {
	case "not", "-":
		name := p.take().Text
		return api.Expr{Op: api.Un, Name: name, Kids: []api.Expr{p.unary()}}
	case "pre":
		p.take()
		return api.Expr{Op: api.Pre, Kids: []api.Expr{p.unary()}}
	case "if":
		return p.choice()
	}
	return p.sampled()
}

func (p *parser) choice() api.Expr {
	p.want("if")
	condition := p.expr()
	p.want("then")
	yes := p.expr()
	p.want("else")
	return api.Expr{Op: api.If, Kids: []api.Expr{condition, yes, p.expr()}}
}

func (p *parser) sampled() api.Expr {
	e := p.atom()
	// Parentheses leave no trace, so that the tree alone tells what a call is. Behind anything else nobody takes an every, and it is the fault.
	if e.Op == api.Call && p.skip("every") {
		e = api.Expr{Op: api.Every, Kids: []api.Expr{e, p.unary()}}
	}
	for p.skip("when") {
		con := p.con()
		name := enclosed(p, "(", p.name, ")")
		e = api.Expr{Op: api.When, Name: name, Cons: []string{con}, Kids: []api.Expr{e}}
	}
	return e
}

func (p *parser) atom() api.Expr {
	switch p.next().Sort {
	case api.TInt:
		return api.Expr{Op: api.Int, N: p.take().N}
	case api.TCon:
		return api.Expr{Op: api.Con, Name: p.con()}
	case api.TName:
		return p.named()
	}
	switch p.next().Text {
	case "true":
		p.take()
		return api.Expr{Op: api.Bool, N: 1}
	case "false":
		p.take()
		return api.Expr{Op: api.Bool}
	case "merge":
		p.take()
		return p.choices(api.Merge)
	case "match":
		p.take()
		return p.choices(api.Match)
	case "(":
		return enclosed(p, "(", p.expr, ")")
	}
	panic(p.fault(api.ErrSyntax))
}

// named parses a variable or a call.
func (p *parser) named() api.Expr {
	name := p.name()
	if !p.at("[") && !p.at("(") {
		return api.Expr{Op: api.Var, Name: name}
	}
	statics := p.statics()
	return api.Expr{Op: api.Call, Name: name, Cons: statics, Kids: enclosed(p, "(", p.exprs, ")")}
}

func (p *parser) exprs() []api.Expr { return separated(p, ",", p.expr) }

// arm is what a merge or a match has for a constructor.
type arm struct {
	con string
	e   api.Expr
}

// choices parses what follows the keyword of a merge or a match.
func (p *parser) choices(op int) api.Expr {
	m := api.Expr{Op: op, Name: p.name()}
	for _, a := range enclosed(p, "(", p.arms, ")") {
		m.Cons = append(m.Cons, a.con)
		m.Kids = append(m.Kids, a.e)
	}
	return m
}

func (p *parser) arms() []arm { return separated(p, "|", p.arm) }

func (p *parser) arm() arm {
	con := p.con()
	p.want("->")
	return arm{con, p.expr()}
}
