package order

// places: a heap of them, for container/heap, the least on top.
type places []int

func (p places) Len() int           { return len(p) }
func (p places) Less(i, j int) bool { return p[i] < p[j] }
func (p places) Swap(i, j int)      { p[i], p[j] = p[j], p[i] }

func (p *places) Push(x any) {
	*p = append(*p, x.(int))
}

func (p *places) Pop() any {
	last := len(*p) - 1
	x := (*p)[last]
	*p = (*p)[:last]
	return x
}
