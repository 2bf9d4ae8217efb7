package ring

import (
	"fmt"
	"math"
	"math/big"
	"math/rand"
	"slices"
	"testing"

	"spillway/api"
)

const top = math.MaxInt64

var over = api.Num{Ovf: true}

func n(millionths int64) api.Num { return api.Num{N: millionths} }

func at(t int, v api.Num) api.Sample { return api.Sample{T: t, V: v} }

// strange: what isn't fix's Is, and so counts as overflow.
func strange() []api.Num {
	return []api.Num{{N: math.MinInt64}, {Ovf: true, N: math.MinInt64}, {Ovf: true, N: -1}, {Ovf: true, N: 1}, {Ovf: true, N: top}}
}

// The model: the chapter's words, over all that was ever added. It shares nothing with the program.

type model struct {
	width, now int
	added      []api.Sample
}

func modelOf(window int) *model {
	switch {
	case window < 1:
		window = 1
	case window > 100:
		window = 100
	}
	return &model{width: window}
}

func (m *model) advance(now int) {
	if now > 1000000 {
		now = 1000000
	}
	if now > m.now {
		m.now = now
	}
}

func (m *model) add(s api.Sample) api.Errno {
	if s.T > m.now || s.T <= m.now-m.width || s.T < 0 {
		return 152
	}
	if k := len(m.added); k > 0 && s.T <= m.added[k-1].T {
		return 150
	}
	if isOver(s.V) {
		s.V = over
	}
	m.added = append(m.added, s)
	return 0
}

// there: those that aren't gone.
func (m *model) there() []api.Sample {
	out := []api.Sample{}
	for _, s := range m.added {
		if s.T > m.now-m.width {
			out = append(out, s)
		}
	}
	return out
}

func isOver(v api.Num) bool { return v.Ovf || v.N == math.MinInt64 }

func whole(x *big.Int) api.Num {
	if !x.IsInt64() || x.Int64() == math.MinInt64 {
		return over
	}
	return n(x.Int64())
}

// answers: what all readers tell.
type answers struct {
	len, count            int // of All, too
	first, last           api.Sample
	some, any             bool
	sum, avg, delta       api.Num
	isAveraged, isChanged bool
}

func sumOf(l []api.Sample) api.Num {
	total := new(big.Int)
	for _, s := range l {
		if isOver(s.V) {
			return over
		}
		total.Add(total, big.NewInt(s.V.N))
	}
	return whole(total)
}

func quotient(a api.Num, by int) api.Num {
	if isOver(a) {
		return over
	}
	return whole(new(big.Int).Quo(big.NewInt(a.N), big.NewInt(int64(by))))
}

func less(a, b api.Num) api.Num {
	if isOver(a) || isOver(b) {
		return over
	}
	return whole(new(big.Int).Sub(big.NewInt(a.N), big.NewInt(b.N)))
}

// wanted: what they should tell of these samples.
func wanted(l []api.Sample) answers {
	a := answers{len: len(l), count: len(l), sum: sumOf(l)}
	if len(l) > 0 {
		a.first, a.last, a.some, a.any = l[0], l[len(l)-1], true, true
		a.avg, a.isAveraged = quotient(a.sum, len(l)), true
	}
	if len(l) > 1 {
		a.delta, a.isChanged = less(a.last.V, a.first.V), true
	}
	return a
}

func told(r *Ring) answers {
	a := answers{len: r.Len(), count: len(r.All()), sum: r.Sum()}
	a.first, a.some = r.First()
	a.last, a.any = r.Last()
	a.avg, a.isAveraged = r.Avg()
	a.delta, a.isChanged = r.Delta()
	return a
}

// holds: r has these samples, and each reader tells what they come to. Readers are asked twice, as none of them changes anything.
func holds(t testing.TB, what string, r *Ring, l []api.Sample) {
	t.Helper()
	for range 2 {
		if got := r.All(); !slices.Equal(got, l) {
			t.Fatalf("P12.1: %s: %v, for %v", what, got, l)
		}
		if got, want := told(r), wanted(l); got != want {
			t.Fatalf("P12.2: %s: of %v: %+v, for %+v", what, l, got, want)
		}
	}
}

// pair: a ring, and the model that is told the same.
type pair struct {
	r     *Ring
	m     *model
	trail string
}

func pairOf(window int) *pair {
	return &pair{New(window), modelOf(window), fmt.Sprint("window ", window)}
}

func (p *pair) advance(t testing.TB, now int) {
	t.Helper()
	p.trail += fmt.Sprint(", to ", now)
	p.r.Advance(now)
	p.m.advance(now)
	holds(t, p.trail, p.r, p.m.there())
}

func (p *pair) add(t testing.TB, s api.Sample) {
	t.Helper()
	p.trail += fmt.Sprint(", add ", s)
	if got, want := p.r.Add(s), p.m.add(s); got != want {
		t.Fatalf("P12.1: %s: %v, for %v", p.trail, got, want)
	}
	holds(t, p.trail, p.r, p.m.there())
}

// value: small ones, great ones, overflow and what counts as that.
func value(r *rand.Rand) api.Num {
	switch r.Intn(12) {
	case 0:
		return over
	case 1:
		return strange()[r.Intn(len(strange()))]
	case 2:
		return n(top - int64(r.Intn(3)))
	case 3:
		return n(-top + int64(r.Intn(3)))
	case 4:
		return n(int64(r.Uint64()) >> r.Intn(64))
	}
	return n(int64(r.Intn(2000001) - 1000000))
}
