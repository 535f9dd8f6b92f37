package cause

import "pendule/api"

// reading collects names, each once.
type reading struct {
	names []string
	seen  map[string]struct{}
}

// add collects what e reads.
func (r *reading) add(e api.Expr) {
	if readsName(e) {
		r.addName(e.Name)
	}
	for _, k := range readKids(e) {
		r.add(k)
	}
}

func (r *reading) addName(name string) {
	if _, ok := r.seen[name]; ok {
		return
	}
	r.seen[name] = struct{}{}
	r.names = append(r.names, name)
}

// readsName reports whether e reads the variable that it names.
func readsName(e api.Expr) bool {
	return e.Op == api.Var || e.Op == api.When || e.Op == api.Merge
}

// readKids returns the kids of e that are read at the instant at which e is: what a delay remembers was read an instant before.
func readKids(e api.Expr) []api.Expr {
	switch e.Op {
	case api.Pre:
		return nil
	case api.Fby:
		return e.Kids[:min(1, len(e.Kids))]
	}
	return e.Kids
}
