package parse

import "pendule/api"

func (p *parser) program() api.Program {
	var g api.Program
	for {
		switch p.next().Text {
		case "type":
			g.Enums = append(g.Enums, p.enum())
		case "node":
			g.Nodes = append(g.Nodes, p.node())
		default:
			return g
		}
	}
}

func (p *parser) enum() api.Enum {
	p.want("type")
	e := api.Enum{Name: p.name()}
	p.want("=")
	e.Cons = separated(p, "|", p.con)
	p.want(";")
	return e
}

func (p *parser) node() api.Node {
	p.want("node")
	n := api.Node{Name: p.name()}
	n.Funs = p.statics()
	n.Ins = enclosed(p, "(", p.names, ")")
	p.want("=")
	n.Outs = enclosed(p, "(", p.names, ")")
	p.want("where")
	n.Items = repeated(p.atItem, p.item)
	p.want("end")
	return n
}

func (p *parser) atItem() bool { return p.at("automaton") || p.atEquation() }

func (p *parser) item() api.Item {
	if p.at("automaton") {
		return api.Item{States: p.automaton()}
	}
	return api.Item{Eq: p.equation()}
}

func (p *parser) automaton() []api.State {
	p.want("automaton")
	l := []api.State{p.state()}
	l = append(l, repeated(p.atState, p.state)...)
	p.want("end")
	p.want(";")
	return l
}

func (p *parser) atState() bool { return p.at("state") }

func (p *parser) state() api.State {
	p.want("state")
	s := api.State{Name: p.con()}
	p.want(":")
	s.Eqs = repeated(p.atEquation, p.equation)
	s.Ways = repeated(p.atWay, p.way)
	return s
}

func (p *parser) atWay() bool { return p.at("until") }

func (p *parser) way() api.Way {
	p.want("until")
	w := api.Way{If: p.expr()}
	p.want("then")
	w.To = p.con()
	p.want(";")
	return w
}

func (p *parser) atEquation() bool { return p.next().Sort == api.TName || p.at("(") }

func (p *parser) equation() api.Eq {
	q := api.Eq{Names: p.defined()}
	p.want("=")
	q.E = p.expr()
	p.want(";")
	return q
}

// defined parses the names on the left of an equation.
func (p *parser) defined() []string {
	if p.at("(") {
		return enclosed(p, "(", p.names, ")")
	}
	return []string{p.name()}
}
