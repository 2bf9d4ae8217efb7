package extreme

import (
	"spillway/api"
	"spillway/fix"
)

// row: samples by their times, each at a tick of its own, and each better than all that are later. The places are used round and round; there is one for each tick of the widest window, so that there is always room.
type row struct {
	places [api.MaxRange]api.Sample
	oldest int // its place
	count  int
}

// place: that of sample i, counted from the oldest one on.
func (r *row) place(i int) int {
	return (r.oldest + i) % len(r.places)
}

func (r *row) sample(i int) api.Sample {
	return r.places[r.place(i)]
}

func (r *row) last() api.Sample {
	return r.sample(r.count - 1)
}

// put: s is the last one; those that it beats are forgotten. They stand together at the end, as values go one way along the row.
func (r *row) put(s api.Sample, isBeaten func(api.Num) bool) {
	for r.count > 0 && isBeaten(r.last().V) {
		r.count--
	}
	r.places[r.place(r.count)] = s
	r.count++
}

// forget: samples up to that time go.
func (r *row) forget(time int) {
	for r.count > 0 && r.sample(0).T <= time {
		r.oldest = r.place(1)
		r.count--
	}
}

// Get: the best value, which is the oldest one's; false of none.
func (r *row) Get() (api.Num, bool) {
	if r.count == 0 {
		return api.Num{}, false
	}
	return r.sample(0).V, true
}

// Kept: how many there are.
func (r *row) Kept() int {
	return r.count
}

// least: a row whose values rise.
type least struct{ *row }

func (l least) add(s api.Sample) {
	l.put(s, func(v api.Num) bool { return fix.Cmp(v, s.V) >= 0 })
}

// greatest: a row whose values fall.
type greatest struct{ *row }

func (g greatest) add(s api.Sample) {
	g.put(s, func(v api.Num) bool { return fix.Cmp(v, s.V) <= 0 })
}
