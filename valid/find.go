package valid

import (
	"slices"

	"doublet/api"
	"doublet/check"
	"doublet/ptr"
)

// place is where a value stands; the whole value's is nil.
type place struct {
	above *place
	name  string
}

// finding is that something is wrong with the value at a place by the node of
// a path: the keywords that it fails itself, and the findings that are passed
// on. Lists of faults would be copied from level to level, each time with
// longer instances.
type finding struct {
	at    *place
	path  string
	names []string
	on    []*finding
	told  bool
}

// questions are by which nodes a value is asked, each behind those that it asks
// of the value itself, and what these ask.
type questions struct {
	nodes []int
	asks  map[int][]Ask
}

// part is a value in another one, and by which nodes it is asked.
type part struct {
	name  string
	nodes []int
}

// look tells what is wrong with the value at a place, by those nodes, and those
// that they ask of it, by which something is.
func look(l []api.Node, at *place, v api.Value, nodes []int) map[int]*finding {
	// All that is asked of a value is asked at once: nodes may come to it, and
	// to what is in it, on more ways than can be gone.
	q := questions{asks: map[int][]Ask{}}
	for _, i := range nodes {
		q.add(l, i, v)
	}
	within := lookWithin(l, at, v, q)
	here := map[int]*finding{}
	for _, i := range q.nodes {
		f := find(l[i], v, q.asks[i], here, within)
		if len(f.names) > 0 || len(f.on) > 0 {
			f.at = at
			here[i] = f
		}
	}
	return here
}

// add puts in a node, if it isn't there, behind all that it asks of the value itself.
func (q *questions) add(l []api.Node, i int, v api.Value) {
	if _, met := q.asks[i]; met {
		return
	}
	q.asks[i] = Asks(l[i], v)
	for _, a := range q.asks[i] {
		if a.Here {
			q.add(l, a.Node, v)
		}
	}
	q.nodes = append(q.nodes, i)
}

// lookWithin tells what is wrong with each element, or member's value, of v.
func lookWithin(l []api.Node, at *place, v api.Value, q questions) []map[int]*finding {
	parts := q.parts(len(v.L) + len(v.M))
	within := make([]map[int]*finding, len(parts))
	for i, p := range parts {
		if len(p.nodes) > 0 {
			within[i] = look(l, &place{above: at, name: p.name}, valueAt(v, i), p.nodes)
		}
	}
	return within
}

// parts tells by which nodes each of n elements, or members, is asked.
func (q *questions) parts(n int) []part {
	l := make([]part, n)
	for _, i := range q.nodes {
		for _, a := range q.asks[i] {
			if !a.Here {
				l[a.At].name = a.Name
				l[a.At].nodes = append(l[a.At].nodes, a.Node)
			}
		}
	}
	return l
}

// valueAt tells an element, or a member's value.
func valueAt(v api.Value, i int) api.Value {
	if v.Kind == api.Array {
		return v.L[i]
	}
	return v.M[i].V
}

// find tells what is wrong with v by a node that asks a, if what is wrong here,
// and within, is known.
func find(n api.Node, v api.Value, a []Ask, here map[int]*finding, within []map[int]*finding) *finding {
	f := &finding{path: n.Path}
	wrong := make([]bool, len(a))
	for i, x := range a {
		found := here
		if !x.Here {
			found = within[x.At]
		}
		other := found[x.Node]
		wrong[i] = other != nil
		if wrong[i] && passesOn(n.Keys[x.Key].Name) {
			f.on = append(f.on, other)
		}
	}
	f.names = slices.Concat(check.Own(n, v), failedByKids(n, a, wrong))
	return f
}

// tell tells all faults of a finding, and of those that it passes on.
func tell(f *finding) []api.Fault {
	var l []api.Fault
	todo := []*finding{f}
	for len(todo) > 0 {
		last := len(todo) - 1
		next := todo[last]
		todo = todo[:last]
		if len(next.names) > 0 {
			l = append(l, faultsAt(next.at.pointer(), next.path, next.names)...)
		}
		for _, x := range next.on {
			if !x.told {
				x.told = true
				todo = append(todo, x)
			}
		}
	}
	return l
}

// pointer tells the text of the pointer to a place.
func (p *place) pointer() string {
	var names []string
	for ; p != nil; p = p.above {
		names = append(names, p.name)
	}
	slices.Reverse(names)
	return ptr.Show(names)
}
