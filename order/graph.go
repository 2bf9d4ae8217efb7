package order

// graph: nodes by their numbers, and which leans on which; what they stand for it doesn't know.
type graph struct {
	leaners [][]int // of each node: those that lean on it
	missing []int   // of each node: how many it leans on that aren't there
}

func graphOf(nodes int) graph {
	return graph{make([][]int, nodes), make([]int, nodes)}
}

// grow: the number of one node more.
func (g *graph) grow() int {
	g.leaners = append(g.leaners, nil)
	g.missing = append(g.missing, 0)
	return len(g.missing) - 1
}

func (g *graph) lean(node, on int) {
	g.leaners[on] = append(g.leaners[on], node)
	g.missing[node]++
}

func (g *graph) isFree(node int) bool {
	return g.missing[node] == 0
}

// arrive: with node there, those that have become free by it.
func (g *graph) arrive(node int) []int {
	freed := []int{}
	for _, leaner := range g.leaners[node] {
		g.missing[leaner]--
		if g.isFree(leaner) {
			freed = append(freed, leaner)
		}
	}
	return freed
}
