package series

import (
	"spillway/api"
	"spillway/counter"
	"spillway/extreme"
	"spillway/fix"
	"spillway/ring"
)

// past: a window of as many ticks of a series as were asked for. Most of what it tells its ring's calls tell.
type past struct {
	*ring.Ring
	width int
	now   int
}

// pastOf: those of the samples that are in the last d ticks.
func pastOf(d, now int, l ...api.Sample) past {
	width := min(max(d, 1), api.MaxRange)
	return past{ringOf(width, now, l...), width, now}
}

// tell: what is told under that name. With false of too few the ring's calls answer nothing, too.
func (p past) tell(name string) (api.Num, bool) {
	switch name {
	case "sum":
		return p.Sum(), p.Len() > 0
	case "avg":
		return p.Avg()
	case "min":
		return p.best(false)
	case "max":
		return p.best(true)
	case "count":
		return fix.Of(int64(p.Len())), p.Len() > 0
	case "last":
		x, ok := p.Last()
		return x.V, ok
	case "increase":
		return counter.Of(p.All()...)
	case "rate":
		return p.rate()
	case "delta":
		return p.Delta()
	}
	return api.Num{}, false
}

// best: the greatest value, or the least one.
func (p past) best(greatest bool) (api.Num, bool) {
	x := extreme.New(p.width, greatest)
	fill(x, p.now, p.All()...)
	return x.Get()
}

// rate: what it rose by, a tick of the window, however few of them have samples.
func (p past) rate() (api.Num, bool) {
	rose, ok := counter.Of(p.All()...)
	if !ok {
		return api.Num{}, false
	}
	return fix.Div(rose, fix.Of(int64(p.width))), true
}

// window: what ring's and extreme's have in common.
type window interface {
	Advance(now int)
	Add(x api.Sample) api.Errno
}

// fill: w comes to now and takes the samples that are in it; the others it refuses by itself.
func fill(w window, now int, l ...api.Sample) {
	w.Advance(now)
	for _, x := range l {
		w.Add(x)
	}
}

// ringOf: a ring of that width at now, with those of the samples that are in it.
func ringOf(width, now int, l ...api.Sample) *ring.Ring {
	r := ring.New(width)
	fill(r, now, l...)
	return r
}
