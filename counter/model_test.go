package counter

import (
	"fmt"
	"math"
	"math/big"
	"math/rand"
	"testing"

	"spillway/api"
)

const top = math.MaxInt64

var over = api.Num{Ovf: true}

func n(millionths int64) api.Num { return api.Num{N: millionths} }

func at(t int, v api.Num) api.Sample { return api.Sample{T: t, V: v} }

// strange: what isn't fix's Is, and so counts as overflow.
func strange() []api.Num {
	return []api.Num{{N: math.MinInt64}, {Ovf: true, N: math.MinInt64}, {Ovf: true, N: -1}, {Ovf: true, N: 1}, {Ovf: true, N: top}}
}

// The model: the chapter's words, over all that was ever added. It shares nothing with the program.

type model struct {
	width, now int
	added      []api.Sample
}

func modelOf(window int) *model {
	switch {
	case window < 1:
		window = 1
	case window > 100:
		window = 100
	}
	return &model{width: window}
}

func (m *model) advance(now int) {
	if now > 1000000 {
		now = 1000000
	}
	if now > m.now {
		m.now = now
	}
}

func (m *model) add(s api.Sample) api.Errno {
	if s.T > m.now || s.T <= m.now-m.width || s.T < 0 {
		return 152
	}
	if k := len(m.added); k > 0 && s.T <= m.added[k-1].T {
		return 150
	}
	m.added = append(m.added, s)
	return 0
}

// there: those that aren't gone.
func (m *model) there() []api.Sample {
	out := []api.Sample{}
	for _, s := range m.added {
		if s.T > m.now-m.width {
			out = append(out, s)
		}
	}
	return out
}

func isOver(v api.Num) bool { return v.Ovf || v.N == math.MinInt64 }

func whole(x *big.Int) api.Num {
	if !x.IsInt64() || x.Int64() == math.MinInt64 {
		return over
	}
	return n(x.Int64())
}

// isBelow: overflow is above all others, and the same as itself.
func isBelow(a, b api.Num) bool {
	if isOver(a) || isOver(b) {
		return !isOver(a)
	}
	return a.N < b.N
}

// answers: what a counter tells.
type answers struct {
	increase, rate   api.Num
	isRisen, isRated bool
	resets           int
}

// two: what two samples or more tell.
func two(increase, rate api.Num, resets int) answers {
	return answers{increase, rate, true, true, resets}
}

// increaseOf: what these rose by, and how many resets there are.
func increaseOf(l []api.Sample) (api.Num, int) {
	total, resets, isLost := new(big.Int), 0, false
	for i, s := range l {
		switch {
		case i == 0:
		case isBelow(s.V, l[i-1].V):
			resets++
			total.Add(total, big.NewInt(s.V.N))
		case isOver(s.V) || isOver(l[i-1].V):
			isLost = true
		default:
			rise := new(big.Int).Sub(big.NewInt(s.V.N), big.NewInt(l[i-1].V.N))
			isLost = isLost || whole(rise) == over
			total.Add(total, rise)
		}
	}
	if isLost {
		return over, resets
	}
	return whole(total), resets
}

func quotient(a api.Num, by int) api.Num {
	if isOver(a) {
		return over
	}
	return whole(new(big.Int).Quo(big.NewInt(a.N), big.NewInt(int64(by))))
}

// wanted: what a counter of that width should tell of these samples.
func wanted(width int, l []api.Sample) answers {
	if len(l) < 2 {
		return answers{}
	}
	increase, resets := increaseOf(l)
	return two(increase, quotient(increase, width), resets)
}

func told(c *Counter) answers {
	a := answers{resets: c.Resets()}
	a.increase, a.isRisen = c.Increase()
	a.rate, a.isRated = c.Rate()
	return a
}

// pair: a counter, and the model that is told the same.
type pair struct {
	c     *Counter
	m     *model
	trail string
}

func pairOf(window int) *pair {
	return &pair{New(window), modelOf(window), fmt.Sprint("window ", window)}
}

// hold: the counter tells what these samples come to. It is asked twice, as asking changes nothing.
func (p *pair) hold(t testing.TB, l []api.Sample) {
	t.Helper()
	for range 2 {
		if got, want := told(p.c), wanted(p.m.width, l); got != want {
			t.Fatalf("P14.2: %s: of %v: %+v, for %+v", p.trail, l, got, want)
		}
	}
}

func (p *pair) advance(t testing.TB, now int) {
	t.Helper()
	p.tell(", to ", now)
	p.c.Advance(now)
	p.m.advance(now)
	p.hold(t, p.m.there())
}

func (p *pair) add(t testing.TB, s api.Sample) api.Errno {
	t.Helper()
	p.tell(", add ", s)
	e, want := p.c.Add(s), p.m.add(s)
	if e != want {
		t.Fatalf("P14.1: %s: %v, for %v", p.trail, e, want)
	}
	p.hold(t, p.m.there())
	return e
}

// tell: what was done last, and some of what was ahead of it.
func (p *pair) tell(what ...any) {
	p.trail += fmt.Sprint(what...)
	p.trail = p.trail[max(0, len(p.trail)-500):]
}

// is: by hand, what the counter tells.
func (p *pair) is(t testing.TB, what string, want answers) {
	t.Helper()
	if got := told(p.c); got != want {
		t.Errorf("P14.2: %s: %+v, for %+v", what, got, want)
	}
}

// filled: a counter at now with these samples, which it must take.
func filled(t testing.TB, window, now int, l ...api.Sample) *pair {
	t.Helper()
	p := pairOf(window)
	for _, s := range l {
		p.advance(t, s.T)
		if e := p.add(t, s); e != api.OK {
			t.Fatalf("P14.1: window %d: %v: %v", window, s, e)
		}
	}
	p.advance(t, now)
	return p
}

// valued: a counter of the widest window with these values, one at each tick from 1 on.
func valued(t testing.TB, l ...api.Num) *pair {
	t.Helper()
	return filled(t, api.MaxRange, len(l), samples(l...)...)
}

func samples(l ...api.Num) []api.Sample {
	out := []api.Sample{}
	for i, v := range l {
		out = append(out, at(i+1, v))
	}
	return out
}

// falling: samples from one time to another, one at each tick, each a reset that adds another number: what is told of them tells which of them are there.
func falling(from, to int) []api.Sample {
	out := []api.Sample{}
	for t := from; t <= to; t++ {
		out = append(out, at(t, n(-int64(t)*int64(t)-7)))
	}
	return out
}

// value: small ones, of which many are equal, great ones, overflow and what counts as that.
func value(r *rand.Rand) api.Num {
	switch r.Intn(24) {
	case 0:
		return over
	case 1:
		return strange()[r.Intn(len(strange()))]
	case 2:
		return n(top - int64(r.Intn(3)))
	case 3:
		return n(-top + int64(r.Intn(3)))
	case 4, 5:
		return n(int64(r.Uint64()) >> r.Intn(64))
	case 6, 7, 8, 9, 10:
		return n(int64(r.Intn(7) - 3))
	}
	return n(int64(r.Intn(2000001) - 1000000))
}
