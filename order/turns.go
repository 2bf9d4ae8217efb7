package order

import (
	"container/heap"

	"spillway/api"
	"spillway/expr"
)

// turns: rules that come one behind the other. The graph's first nodes are the rules, by their places; those behind them are the names that rules record. A rule leans on names and a name on its rules, as many rules that lean on many directly would be too many pairs.
type turns struct {
	graph
	rules int
	free  places
}

func turnsOf(l []api.Rule) turns {
	t := turns{graph: graphOf(len(l)), rules: len(l)}
	names := t.growNames(l)
	for place, r := range l {
		for _, metric := range expr.Metrics(r.E) {
			if name, ok := names[metric]; ok {
				t.lean(place, name)
			}
		}
	}
	return t
}

// growNames: the node of each name that a rule records.
func (t *turns) growNames(l []api.Rule) map[string]int {
	names := map[string]int{}
	for place, r := range l {
		name, ok := names[r.Record]
		if !ok {
			name = t.grow()
			names[r.Record] = name
		}
		t.lean(name, place)
	}
	return names
}

// order: the rules as they come, as far as that goes.
func (t *turns) order() []int {
	for place := range t.rules {
		if t.isFree(place) {
			heap.Push(&t.free, place)
		}
	}
	out := []int{}
	for t.free.Len() > 0 {
		place := heap.Pop(&t.free).(int)
		out = append(out, place)
		t.pass(place)
	}
	return out
}

// pass: a rule that has become free still waits for its turn, but a name is there at once.
func (t *turns) pass(node int) {
	for _, freed := range t.arrive(node) {
		if freed < t.rules {
			heap.Push(&t.free, freed)
		} else {
			t.pass(freed)
		}
	}
}
