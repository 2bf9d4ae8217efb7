package extreme

import (
	"fmt"
	"math"
	"math/rand"
	"slices"
	"testing"

	"spillway/api"
)

const top = math.MaxInt64

var over = api.Num{Ovf: true}

func n(millionths int64) api.Num { return api.Num{N: millionths} }

func at(t int, v api.Num) api.Sample { return api.Sample{T: t, V: v} }

// strange: what isn't fix's Is, and so counts as overflow.
func strange() []api.Num {
	return []api.Num{{N: math.MinInt64}, {Ovf: true, N: math.MinInt64}, {Ovf: true, N: -1}, {Ovf: true, N: 1}, {Ovf: true, N: top}}
}

// The model: the chapter's words, over all that was ever added. It shares nothing with the program.

type model struct {
	width, now int
	added      []api.Sample
}

func modelOf(window int) *model {
	switch {
	case window < 1:
		window = 1
	case window > 100:
		window = 100
	}
	return &model{width: window}
}

func (m *model) advance(now int) {
	if now > 1000000 {
		now = 1000000
	}
	if now > m.now {
		m.now = now
	}
}

func (m *model) add(s api.Sample) api.Errno {
	if s.T > m.now || s.T <= m.now-m.width || s.T < 0 {
		return 152
	}
	if k := len(m.added); k > 0 && s.T <= m.added[k-1].T {
		return 150
	}
	if isOver(s.V) {
		s.V = over
	}
	m.added = append(m.added, s)
	return 0
}

// there: those that aren't gone, beaten or not.
func (m *model) there() []api.Sample {
	out := []api.Sample{}
	for _, s := range m.added {
		if s.T > m.now-m.width {
			out = append(out, s)
		}
	}
	return out
}

func isOver(v api.Num) bool { return v.Ovf || v.N == math.MinInt64 }

// isAbove: overflow is above all others, and the same as itself.
func isAbove(a, b api.Num) bool {
	if isOver(a) || isOver(b) {
		return !isOver(b)
	}
	return a.N > b.N
}

// isAs: whether a is as great as b or greater; or as small or smaller.
func isAs(greatest bool, a, b api.Num) bool {
	if greatest {
		return !isAbove(b, a)
	}
	return !isAbove(a, b)
}

// best: the value that is as great, or as small, as each of these.
func best(greatest bool, l []api.Sample) (api.Num, bool) {
	for _, s := range l {
		if !slices.ContainsFunc(l, func(o api.Sample) bool { return !isAs(greatest, s.V, o.V) }) {
			return s.V, true
		}
	}
	return api.Num{}, false
}

// unbeaten: those than which no later one is as great, or as small, or more so.
func unbeaten(greatest bool, l []api.Sample) []api.Sample {
	out := []api.Sample{}
	for i, s := range l {
		if !slices.ContainsFunc(l[i+1:], func(later api.Sample) bool { return isAs(greatest, later.V, s.V) }) {
			out = append(out, s)
		}
	}
	return out
}

// holds: of these samples x tells the greatest, or the least, and how many could still be told. It is asked twice, as asking changes nothing.
func holds(t testing.TB, what string, x *Extreme, greatest bool, l []api.Sample) {
	t.Helper()
	value, some := best(greatest, l)
	kept := len(unbeaten(greatest, l))
	for range 2 {
		if got, ok := x.Get(); got != value || ok != some {
			t.Fatalf("P13.1: %s: greatest %v of %v: %v %v, for %v %v", what, greatest, l, got, ok, value, some)
		}
		if got := x.Kept(); got != kept {
			t.Fatalf("P13.2: %s: greatest %v of %v: %d kept, for %d", what, greatest, l, got, kept)
		}
	}
}

// both: a least and a greatest, and the model that is told the same.
type both struct {
	low, high *Extreme
	m         *model
	trail     string
}

func bothOf(window int) *both {
	return &both{New(window, false), New(window, true), modelOf(window), fmt.Sprint("window ", window)}
}

func (b *both) hold(t testing.TB, l []api.Sample) {
	t.Helper()
	holds(t, b.trail, b.low, false, l)
	holds(t, b.trail, b.high, true, l)
}

func (b *both) advance(t testing.TB, now int) {
	t.Helper()
	b.tell(", to ", now)
	b.low.Advance(now)
	b.high.Advance(now)
	b.m.advance(now)
	b.hold(t, b.m.there())
}

func (b *both) add(t testing.TB, s api.Sample) api.Errno {
	t.Helper()
	b.tell(", add ", s)
	want := b.m.add(s)
	if e, f := b.low.Add(s), b.high.Add(s); e != want || f != want {
		t.Fatalf("P13.1: %s: %v and %v, for %v", b.trail, e, f, want)
	}
	b.hold(t, b.m.there())
	return want
}

// tell: what was done last, and some of what was ahead of it.
func (b *both) tell(what ...any) {
	b.trail += fmt.Sprint(what...)
	b.trail = b.trail[max(0, len(b.trail)-500):]
}

// again: the same samples in new ones, at the same time.
func (b *both) again(t testing.TB) *both {
	t.Helper()
	return filled(t, b.m.width, b.m.now, b.m.there()...)
}

// filled: both at now with these samples, which they must take.
func filled(t testing.TB, window, now int, l ...api.Sample) *both {
	t.Helper()
	b := bothOf(window)
	for _, s := range l {
		b.advance(t, s.T)
		if e := b.add(t, s); e != api.OK {
			t.Fatalf("P13.1: window %d: %v: %v", window, s, e)
		}
	}
	b.advance(t, now)
	return b
}

// valued: both of the widest window with these values, one at each tick from 1 on.
func valued(t testing.TB, l ...api.Num) *both {
	t.Helper()
	return filled(t, api.MaxRange, len(l), samples(l...)...)
}

func samples(l ...api.Num) []api.Sample {
	out := []api.Sample{}
	for i, v := range l {
		out = append(out, at(i+1, v))
	}
	return out
}

// value: small ones, of which many are equal, great ones, overflow and what counts as that.
func value(r *rand.Rand) api.Num {
	switch r.Intn(12) {
	case 0:
		return over
	case 1:
		return strange()[r.Intn(len(strange()))]
	case 2:
		return n(top - int64(r.Intn(3)))
	case 3:
		return n(-top + int64(r.Intn(3)))
	case 4:
		return n(int64(r.Uint64()) >> r.Intn(64))
	case 5, 6, 7:
		return n(int64(r.Intn(7) - 3))
	}
	return n(int64(r.Intn(2000001) - 1000000))
}
