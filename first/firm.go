package first

import (
	"slices"

	"pendule/api"
)

// onlyOut stands for the index of an item, where an Out is open and no item is to blame.
const onlyOut = -1

// violated reports whether something is open in n that must be firm, and the index of the first item in whose expression it is, or onlyOut.
func (s openSet) violated(n api.Node) (int, bool) {
	wrong := func(i api.Item) bool { return s.violatedIn(i.E) }
	if b := slices.IndexFunc(n.Items, wrong); b >= 0 {
		return b, true
	}
	return onlyOut, slices.ContainsFunc(n.Outs, s.has)
}

// violatedIn reports whether something is open in e, at any depth, that must be firm.
func (s openSet) violatedIn(e api.Expr) bool {
	return namesVariable(e) && s.has(e.Name) ||
		slices.ContainsFunc(firmKids(e), s.opens) ||
		slices.ContainsFunc(e.Kids, s.violatedIn)
}

// namesVariable reports whether e names a variable that must be firm.
func namesVariable(e api.Expr) bool { return e.Op == api.When || e.Op == api.Merge }

// firmKids returns the kids of e that must be firm.
func firmKids(e api.Expr) []api.Expr {
	switch e.Op {
	case api.Pre, api.Merge, api.Call:
		return e.Kids
	case api.Fby, api.Every:
		return e.Kids[1:]
	}
	return nil
}
