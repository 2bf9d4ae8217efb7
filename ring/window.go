package ring

import (
	"spillway/api"
	"spillway/fix"
)

// window: samples by their times, each at a tick of its own. The places are used round and round; there is one for each tick of the widest window, so that there is always room.
type window struct {
	places [api.MaxRange]api.Sample
	oldest int // its place
	count  int
}

// place: that of sample i, counted from the oldest one on.
func (w *window) place(i int) int {
	return (w.oldest + i) % len(w.places)
}

func (w *window) sample(i int) api.Sample {
	return w.places[w.place(i)]
}

func (w *window) push(s api.Sample) {
	w.places[w.place(w.count)] = s
	w.count++
}

// forget: samples up to that time go.
func (w *window) forget(time int) {
	for w.count > 0 && w.sample(0).T <= time {
		w.oldest = w.place(1)
		w.count--
	}
}

// Len: how many there are.
func (w *window) Len() int {
	return w.count
}

// All: those there, in order.
func (w *window) All() []api.Sample {
	out := []api.Sample{}
	for i := range w.count {
		out = append(out, w.sample(i))
	}
	return out
}

// First: the oldest one; false of none.
func (w *window) First() (api.Sample, bool) {
	if w.count == 0 {
		return api.Sample{}, false
	}
	return w.sample(0), true
}

// Last: the newest one; false of none.
func (w *window) Last() (api.Sample, bool) {
	if w.count == 0 {
		return api.Sample{}, false
	}
	return w.sample(w.count - 1), true
}

// Sum: all values together. It is reckoned anew each time, as an overflow could not be taken away again when it goes.
func (w *window) Sum() api.Num {
	values := []api.Num{}
	for i := range w.count {
		values = append(values, w.sample(i).V)
	}
	return fix.Sum(values...)
}

// Avg: the sum divided by how many there are; false of none.
func (w *window) Avg() (api.Num, bool) {
	if w.count == 0 {
		return api.Num{}, false
	}
	return fix.Div(w.Sum(), fix.Of(int64(w.count))), true
}

// Delta: the last value less the first one; false of fewer than two.
func (w *window) Delta() (api.Num, bool) {
	if w.count < 2 {
		return api.Num{}, false
	}
	return fix.Sub(w.sample(w.count-1).V, w.sample(0).V), true
}
