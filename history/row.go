package history

import (
	"sort"

	"spillway/api"
	"spillway/label"
	"spillway/pattern"
)

// set: the labels of a row.
type set []api.Pair

func (s set) cmp(l []api.Pair) int {
	return label.Cmp(s, l)
}

func (s set) matches(m ...api.Matcher) bool {
	return pattern.All(s, m...)
}

// row: all samples of a set. Their times rise, also where the series was gone and came again: what was taken then is above all that had gone.
type row struct {
	set
	samples []api.Sample
}

// upTo: how many samples are at most t.
func (r row) upTo(t int) int {
	return sort.Search(len(r.samples), func(i int) bool { return r.samples[i].T > t })
}

// between: a piece of the row's own: the samples above from and at most to.
func (r row) between(from, to int) []api.Sample {
	end := r.upTo(to)
	return r.samples[min(r.upTo(from), end):end]
}

// last: the last sample at most t; false, if it isn't above t less age.
func (r row) last(t, age int) (api.Sample, bool) {
	count := r.upTo(t)
	if count == 0 || r.samples[count-1].T <= t-age {
		return api.Sample{}, false
	}
	return r.samples[count-1], true
}

// isThere: whether the series was there at t.
func (r row) isThere(t int) bool {
	_, ok := r.last(t, api.MaxRange)
	return ok
}
