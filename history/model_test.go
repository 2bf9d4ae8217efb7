package history

import (
	"fmt"
	"math"
	"math/rand"
	"slices"
	"strings"
	"testing"

	"spillway/api"
)

const top = math.MaxInt64

var over = api.Num{Ovf: true}

func n(millionths int64) api.Num { return api.Num{N: millionths} }

func at(t int, v api.Num) api.Sample { return api.Sample{T: t, V: v} }

// of: a label set, of names and values by turns.
func of(texts ...string) []api.Pair {
	l := []api.Pair{}
	for i := 0; i+1 < len(texts); i += 2 {
		l = append(l, api.Pair{Name: texts[i], Value: texts[i+1]})
	}
	return l
}

// nth: label sets by the dozen, in their order as their numbers up to 999.
func nth(i int) []api.Pair { return of("a", fmt.Sprintf("%03d", i)) }

func match(name string, kind int, text string) api.Matcher {
	return api.Matcher{Name: name, Kind: kind, Text: text}
}

// strange: what isn't fix's Is, and so counts as overflow.
func strange() []api.Num {
	return []api.Num{{N: math.MinInt64}, {Ovf: true, N: math.MinInt64}, {Ovf: true, N: -1}, {Ovf: true, N: 1}, {Ovf: true, N: top}}
}

// The model: the chapter's words, over one list of all that was accepted, as it came. It shares nothing with the program.

type entry struct {
	set []api.Pair
	api.Sample
}

type model struct {
	now      int
	accepted []entry
}

func (m *model) advance(now int) {
	if now > 1000000 {
		now = 1000000
	}
	if now > m.now {
		m.now = now
	}
}

func isName(s string) bool {
	for i, c := range []byte(s) {
		isLetter := strings.IndexByte("abcdefghijklmnopqrstuvwxyzABCDEFGHIJKLMNOPQRSTUVWXYZ_", c) >= 0
		if !isLetter && (i == 0 || strings.IndexByte("0123456789", c) < 0) {
			return false
		}
	}
	return s != "" && len(s) <= 20
}

func isSet(l []api.Pair) bool {
	for i, p := range l {
		if !isName(p.Name) || p.Value == "" || len(p.Value) > 30 || strings.Contains(p.Value, "\n") || i > 0 && p.Name <= l[i-1].Name {
			return false
		}
	}
	return len(l) <= 8
}

// between: the samples of a set above from and at most to.
func (m *model) between(l []api.Pair, from, to int) []api.Sample {
	out := []api.Sample{}
	for _, x := range m.accepted {
		if slices.Equal(x.set, l) && x.T > from && x.T <= to {
			out = append(out, x.Sample)
		}
	}
	return out
}

// at: the last sample of a set of less than so many ticks at t.
func (m *model) at(l []api.Pair, t, ticks int) (api.Sample, bool) {
	past := m.between(l, -1, t)
	if len(past) == 0 || past[len(past)-1].T <= t-ticks {
		return api.Sample{}, false
	}
	return past[len(past)-1], true
}

func (m *model) add(l []api.Pair, x api.Sample) api.Errno {
	last, isThere := m.at(l, m.now, 100)
	switch {
	case !isSet(l):
		return 30
	case x.T < 0 || x.T > m.now || x.T <= m.now-100:
		return 152
	case isThere && last.T >= x.T:
		return 150
	case !isThere && len(m.sets(m.now)) >= 16:
		return 151
	case x.V.Ovf || x.V.N == math.MinInt64:
		x.V = over
	}
	m.accepted = append(m.accepted, entry{slices.Clone(l), x})
	return 0
}

// isGlob: by the first sign, and then the rest.
func isGlob(pattern, s string) bool {
	if pattern == "" {
		return s == ""
	}
	if pattern[0] == '*' {
		return isGlob(pattern[1:], s) || s != "" && isGlob(pattern, s[1:])
	}
	return s != "" && (pattern[0] == '?' || pattern[0] == s[0]) && isGlob(pattern[1:], s[1:])
}

func isMatched(l []api.Pair, m api.Matcher) bool {
	value := ""
	for _, p := range l {
		if p.Name == m.Name {
			value = p.Value
		}
	}
	switch m.Kind {
	case 1:
		return value == m.Text
	case 2:
		return value != m.Text
	case 3:
		return len(value) >= len(m.Text) && value[:len(m.Text)] == m.Text
	case 4:
		return isGlob(m.Text, value)
	}
	return false
}

// isAhead: whether a comes ahead of b, byte by byte of each name and value.
func isAhead(a, b []api.Pair) bool {
	for i, p := range a {
		switch {
		case i >= len(b):
			return false
		case p.Name != b[i].Name:
			return p.Name < b[i].Name
		case p.Value != b[i].Value:
			return p.Value < b[i].Value
		}
	}
	return len(a) < len(b)
}

func (m *model) sets(t int, l ...api.Matcher) [][]api.Pair {
	sets := [][]api.Pair{}
	for _, x := range m.accepted {
		isWanted := x.T <= t && x.T > t-100
		for _, m := range l {
			isWanted = isWanted && isMatched(x.set, m)
		}
		place := 0
		for place < len(sets) && isAhead(sets[place], x.set) {
			place++
		}
		if isWanted && (place == len(sets) || isAhead(x.set, sets[place])) {
			sets = slices.Insert(sets, place, x.set)
		}
	}
	return sets
}

// pair: a history, and the model that is told the same.
type pair struct {
	h     *History
	m     *model
	trail string
}

func newPair() *pair { return &pair{New(), &model{}, "new"} }

func (p *pair) copied() *pair {
	return &pair{p.h.Copy(), &model{p.m.now, slices.Clone(p.m.accepted)}, p.trail + ", copied"}
}

// tell: what was done last, and some of what was ahead of it.
func (p *pair) tell(what ...any) {
	p.trail += fmt.Sprint(what...)
	p.trail = p.trail[max(0, len(p.trail)-700):]
}

func (p *pair) advance(t testing.TB, now int) {
	t.Helper()
	p.tell(", to ", now)
	p.h.Advance(now)
	p.m.advance(now)
	p.holdCounts(t)
}

func (p *pair) add(t testing.TB, l []api.Pair, x api.Sample) api.Errno {
	t.Helper()
	p.tell(", add ", x, " to ", l)
	e, want := p.h.Add(l, x), p.m.add(l, x)
	if e != want {
		t.Fatalf("P16.1: %s: %v, for %v", p.trail, e, want)
	}
	p.holdCounts(t)
	return e
}

// must: add what is to be taken.
func (p *pair) must(t testing.TB, l []api.Pair, samples ...api.Sample) {
	t.Helper()
	for _, x := range samples {
		if e := p.add(t, l, x); e != api.OK {
			t.Fatalf("P16.1: %s: %v", p.trail, e)
		}
	}
}

func (p *pair) holdCounts(t testing.TB) {
	t.Helper()
	if got, want := p.h.Now(), p.m.now; got != want {
		t.Fatalf("P16.1: %s: now %d, for %d", p.trail, got, want)
	}
	if got, want := p.h.Len(), len(p.m.accepted); got != want {
		t.Fatalf("P16.2: %s: %d samples, for %d", p.trail, got, want)
	}
}

func isSame(a, b [][]api.Pair) bool {
	return slices.EqualFunc(a, b, func(a, b []api.Pair) bool { return slices.Equal(a, b) })
}

func (p *pair) holdSets(t testing.TB, when int, l ...api.Matcher) {
	t.Helper()
	if got, want := p.h.Sets(when, l...), p.m.sets(when, l...); !isSame(got, want) {
		t.Fatalf("P16.2: %s: sets of %v at %d: %v, for %v", p.trail, l, when, got, want)
	}
}

func (p *pair) holdAt(t testing.TB, l []api.Pair, when int) {
	t.Helper()
	x, ok := p.h.At(l, when)
	if want, isTold := p.m.at(l, when, 10); x != want || ok != isTold {
		t.Fatalf("P16.2: %s: %v at %d: %v %v, for %v %v", p.trail, l, when, x, ok, want, isTold)
	}
}

func (p *pair) holdBetween(t testing.TB, l []api.Pair, from, to int) {
	t.Helper()
	if got, want := p.h.Between(l, from, to), p.m.between(l, from, to); !slices.Equal(got, want) {
		t.Fatalf("P16.2: %s: %v from %d to %d: %v, for %v", p.trail, l, from, to, got, want)
	}
}

// hold: all that is told of these sets at these times. It is asked twice, as asking changes nothing.
func (p *pair) hold(t testing.TB, sets [][]api.Pair, times ...int) {
	t.Helper()
	for range 2 {
		p.holdCounts(t)
		for _, to := range times {
			p.holdSets(t, to)
			for _, l := range sets {
				p.holdAt(t, l, to)
				for _, from := range times {
					p.holdBetween(t, l, from, to)
				}
			}
		}
	}
}

// all: the sets of which anything was ever accepted.
func (p *pair) all() [][]api.Pair {
	out := [][]api.Pair{}
	for _, x := range p.m.accepted {
		if !slices.ContainsFunc(out, func(l []api.Pair) bool { return slices.Equal(l, x.set) }) {
			out = append(out, x.set)
		}
	}
	return out
}

// edges: the times of which most hangs on.
func (p *pair) edges() []int {
	out := []int{math.MinInt, math.MinInt + 5, math.MinInt + 99, -100, -10, -1, 0, 1, 9, 10, 99, 100, p.m.now - 100, p.m.now - 99, p.m.now - 10, p.m.now - 9, p.m.now, p.m.now + 1, p.m.now + 9, p.m.now + 10, p.m.now + 99, p.m.now + 100, math.MaxInt - 99, math.MaxInt - 5, math.MaxInt}
	for i, x := range p.m.accepted {
		if i == 0 || i == len(p.m.accepted)-1 {
			out = append(out, x.T-1, x.T, x.T+9, x.T+10, x.T+99, x.T+100)
		}
	}
	return out
}

// filled: a history at now with one row of these samples.
func filled(t testing.TB, now int, l []api.Pair, samples ...api.Sample) *pair {
	t.Helper()
	p := newPair()
	for _, x := range samples {
		p.advance(t, x.T)
		p.must(t, l, x)
	}
	p.advance(t, now)
	return p
}

// ticked: samples from one time to another, one at each tick.
func ticked(from, to int) []api.Sample {
	out := []api.Sample{}
	for t := from; t <= to; t++ {
		out = append(out, at(t, n(int64(t)*7-300)))
	}
	return out
}

// timed: samples at these times.
func timed(times ...int) []api.Sample {
	out := []api.Sample{}
	for _, t := range times {
		out = append(out, at(t, n(int64(t)*7-300)))
	}
	return out
}

// value: small ones, great ones, overflow and what counts as that.
func value(r *rand.Rand) api.Num {
	switch r.Intn(24) {
	case 0:
		return over
	case 1:
		return strange()[r.Intn(len(strange()))]
	case 2:
		return n(top - int64(r.Intn(3)))
	case 3:
		return n(-top + int64(r.Intn(3)))
	}
	return n(int64(r.Intn(2000001) - 1000000))
}

// anySet: one of a few dozen, and now and then what is none.
func anySet(r *rand.Rand, many int) []api.Pair {
	switch r.Intn(30) {
	case 0:
		return wrongSets()[r.Intn(len(wrongSets()))]
	case 1:
		return of()
	case 2:
		return of("__name__", "up", "zone", "x")
	}
	return of("a", fmt.Sprint(r.Intn(many)), "b", []string{"x", "y", "xy"}[r.Intn(3)])
}

func anyMatchers(r *rand.Rand) []api.Matcher {
	l := []api.Matcher{}
	for range r.Intn(3) {
		name := []string{"a", "b", "c", "__name__", ""}[r.Intn(5)]
		text := []string{"", "x", "y", "xy", "1", "*", "?", "?y", "*y*"}[r.Intn(9)]
		l = append(l, match(name, r.Intn(6), text))
	}
	return l
}

// wrongSets: none of these is a label set.
func wrongSets() [][]api.Pair {
	long := of("a", "x", "b", "x", "c", "x", "d", "x", "e", "x", "f", "x", "g", "x", "h", "x", "i", "x")
	return [][]api.Pair{
		of("", "x"), of("9", "x"), of("9a", "x"), of("a-b", "x"), of("a b", "x"), of("a:b", "x"), of("ä", "x"), of("a\n", "x"), of("a\x00", "x"), of("\xff", "x"), of(strings.Repeat("a", 21), "x"), of(strings.Repeat("a", 5000), "x"),
		of("a", ""), of("a", "\n"), of("a", "x\ny"), of("a", strings.Repeat("x", 31)), of("a", strings.Repeat("x", 5000)),
		of("b", "x", "a", "x"), of("a", "x", "c", "x", "b", "x"), of("b", "x", "B", "x"), of("a", "x", "__name__", "up"), of("ab", "x", "a", "x"),
		of("a", "x", "a", "x"), of("a", "x", "a", "y"), of("a", "y", "a", "x"), of("a", "x", "b", "x", "b", "x"),
		of("", ""), of("a", "x", "", ""), of("a", "x", "b", ""), of("a", "", "b", "x"), of("a", "x", "9", "x"), of("__name__", ""), of("__name__", strings.Repeat("u", 31)),
		long,
	}
}
