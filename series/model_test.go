package series

import (
	"fmt"
	"math"
	"math/big"
	"math/rand"
	"slices"
	"strings"
	"testing"

	"spillway/api"
)

const top = math.MaxInt64

var over = api.Num{Ovf: true}

func n(millionths int64) api.Num { return api.Num{N: millionths} }

func at(t int, v api.Num) api.Sample { return api.Sample{T: t, V: v} }

// of: a label set, of names and values by turns.
func of(texts ...string) []api.Pair {
	l := []api.Pair{}
	for i := 0; i+1 < len(texts); i += 2 {
		l = append(l, api.Pair{Name: texts[i], Value: texts[i+1]})
	}
	return l
}

// nth: label sets by the dozen, in their order as their numbers up to 999.
func nth(i int) []api.Pair { return of("a", fmt.Sprintf("%03d", i)) }

func match(name string, kind int, text string) api.Matcher {
	return api.Matcher{Name: name, Kind: kind, Text: text}
}

// strange: what isn't fix's Is, and so counts as overflow.
func strange() []api.Num {
	return []api.Num{{N: math.MinInt64}, {Ovf: true, N: math.MinInt64}, {Ovf: true, N: -1}, {Ovf: true, N: 1}, {Ovf: true, N: top}}
}

// names: those under which Over tells something, and how many samples it takes.
func names() map[string]int {
	return map[string]int{"sum": 1, "avg": 1, "min": 1, "max": 1, "count": 1, "last": 1, "increase": 2, "rate": 2, "delta": 2}
}

// noNames: under these it tells nothing.
func noNames() []string {
	return []string{"", "Sum", "SUM", "sum ", " sum", "su", "sums", "sum_over_time", "avg_over_time", "average", "least", "first", "len", "Last", "resets", "rates", "increase,rate", "*", "?", "delta\x00", "\xff", "sum\n", strings.Repeat("sum", 1000)}
}

// The model: the chapter's words, over all that was ever added. It shares nothing with the program.

type model struct {
	now   int
	added map[string][]api.Sample // by key
	sets  map[string][]api.Pair
}

func newModel() *model {
	return &model{added: map[string][]api.Sample{}, sets: map[string][]api.Pair{}}
}

func key(l []api.Pair) string { return fmt.Sprintf("%q", l) }

func (m *model) advance(now int) {
	if now > 1000000 {
		now = 1000000
	}
	if now > m.now {
		m.now = now
	}
}

func isName(s string) bool {
	for i, c := range []byte(s) {
		isLetter := strings.IndexByte("abcdefghijklmnopqrstuvwxyzABCDEFGHIJKLMNOPQRSTUVWXYZ_", c) >= 0
		if !isLetter && (i == 0 || strings.IndexByte("0123456789", c) < 0) {
			return false
		}
	}
	return s != "" && len(s) <= 20
}

func isSet(l []api.Pair) bool {
	for i, p := range l {
		if !isName(p.Name) || p.Value == "" || len(p.Value) > 30 || strings.Contains(p.Value, "\n") || i > 0 && p.Name <= l[i-1].Name {
			return false
		}
	}
	return len(l) <= 8
}

func (m *model) isThere(k string) bool {
	l := m.added[k]
	return len(l) > 0 && l[len(l)-1].T > m.now-100
}

func (m *model) count() int {
	count := 0
	for k := range m.added {
		if m.isThere(k) {
			count++
		}
	}
	return count
}

func isOver(v api.Num) bool { return v.Ovf || v.N == math.MinInt64 }

func (m *model) add(l []api.Pair, x api.Sample) api.Errno {
	k := key(l)
	past := m.added[k]
	switch {
	case !isSet(l):
		return 30
	case x.T < 0 || x.T > m.now || x.T <= m.now-100:
		return 152
	case m.isThere(k) && past[len(past)-1].T >= x.T:
		return 150
	case !m.isThere(k) && m.count() >= 16:
		return 151
	case isOver(x.V):
		x.V = over
	}
	m.added[k] = append(slices.Clone(past), x)
	m.sets[k] = slices.Clone(l)
	return 0
}

// isGlob: by the first sign, and then the rest.
func isGlob(pattern, s string) bool {
	if pattern == "" {
		return s == ""
	}
	if pattern[0] == '*' {
		return isGlob(pattern[1:], s) || s != "" && isGlob(pattern, s[1:])
	}
	return s != "" && (pattern[0] == '?' || pattern[0] == s[0]) && isGlob(pattern[1:], s[1:])
}

func isMatched(l []api.Pair, m api.Matcher) bool {
	value := ""
	for _, p := range l {
		if p.Name == m.Name {
			value = p.Value
		}
	}
	switch m.Kind {
	case 1:
		return value == m.Text
	case 2:
		return value != m.Text
	case 3:
		return len(value) >= len(m.Text) && value[:len(m.Text)] == m.Text
	case 4:
		return isGlob(m.Text, value)
	}
	return false
}

// isAhead: whether a comes ahead of b, byte by byte of each name and value.
func isAhead(a, b []api.Pair) bool {
	for i, p := range a {
		switch {
		case i >= len(b):
			return false
		case p.Name != b[i].Name:
			return p.Name < b[i].Name
		case p.Value != b[i].Value:
			return p.Value < b[i].Value
		}
	}
	return len(a) < len(b)
}

func (m *model) setsOf(l ...api.Matcher) [][]api.Pair {
	sets := [][]api.Pair{}
	for k, set := range m.sets {
		isWanted := m.isThere(k)
		for _, x := range l {
			isWanted = isWanted && isMatched(set, x)
		}
		if !isWanted {
			continue
		}
		place := 0
		for place < len(sets) && isAhead(sets[place], set) {
			place++
		}
		sets = slices.Insert(sets, place, set)
	}
	return sets
}

func (m *model) last(l []api.Pair) (api.Sample, bool) {
	past := m.added[key(l)]
	if len(past) == 0 || past[len(past)-1].T <= m.now-10 {
		return api.Sample{}, false
	}
	return past[len(past)-1], true
}

// held: a window's width.
func held(d int) int {
	switch {
	case d < 1:
		return 1
	case d > 100:
		return 100
	}
	return d
}

func (m *model) window(l []api.Pair, d int) []api.Sample {
	out := []api.Sample{}
	for _, x := range m.added[key(l)] {
		if x.T > m.now-held(d) {
			out = append(out, x)
		}
	}
	return out
}

func whole(x *big.Int) api.Num {
	if !x.IsInt64() || x.Int64() == math.MinInt64 {
		return over
	}
	return n(x.Int64())
}

// isBelow: overflow is above all others, and the same as itself.
func isBelow(a, b api.Num) bool {
	if isOver(a) || isOver(b) {
		return !isOver(a)
	}
	return a.N < b.N
}

func less(a, b api.Num) api.Num {
	if isOver(a) || isOver(b) {
		return over
	}
	return whole(new(big.Int).Sub(big.NewInt(a.N), big.NewInt(b.N)))
}

func sumOf(l []api.Num) api.Num {
	total := new(big.Int)
	for _, v := range l {
		if isOver(v) {
			return over
		}
		total.Add(total, big.NewInt(v.N))
	}
	return whole(total)
}

func quotient(a api.Num, by int) api.Num {
	if isOver(a) {
		return over
	}
	return whole(new(big.Int).Quo(big.NewInt(a.N), big.NewInt(int64(by))))
}

func riseOf(l []api.Num) api.Num {
	rises := []api.Num{}
	for i := 1; i < len(l); i++ {
		if isBelow(l[i], l[i-1]) {
			rises = append(rises, l[i])
		} else {
			rises = append(rises, less(l[i], l[i-1]))
		}
	}
	return sumOf(rises)
}

// overOf: what these samples of a window that wide tell under each name.
func overOf(l []api.Sample, d int) map[string]api.Num {
	values := []api.Num{}
	for _, x := range l {
		values = append(values, x.V)
	}
	if len(values) == 0 {
		return map[string]api.Num{}
	}
	low, high := values[0], values[0]
	for _, v := range values {
		if isBelow(v, low) {
			low = v
		}
		if isBelow(high, v) {
			high = v
		}
	}
	last := values[len(values)-1]
	told := map[string]api.Num{"sum": sumOf(values), "avg": quotient(sumOf(values), len(values)), "min": low, "max": high, "count": n(int64(len(values)) * 1000000), "last": last}
	if len(values) > 1 {
		told["increase"], told["rate"], told["delta"] = riseOf(values), quotient(riseOf(values), held(d)), less(last, values[0])
	}
	return told
}

func (m *model) clone() *model {
	c := newModel()
	c.now = m.now
	for k, l := range m.added {
		c.added[k], c.sets[k] = slices.Clone(l), m.sets[k]
	}
	return c
}

// pair: a store, and the model that is told the same.
type pair struct {
	s     *Store
	m     *model
	trail string
}

func newPair() *pair { return &pair{New(), newModel(), "new"} }

func (p *pair) copied() *pair {
	return &pair{p.s.Copy(), p.m.clone(), p.trail + ", copied"}
}

// tell: what was done last, and some of what was ahead of it.
func (p *pair) tell(what ...any) {
	p.trail += fmt.Sprint(what...)
	p.trail = p.trail[max(0, len(p.trail)-700):]
}

func (p *pair) advance(t testing.TB, now int) {
	t.Helper()
	p.tell(", to ", now)
	p.s.Advance(now)
	p.m.advance(now)
	p.holdCounts(t)
}

func (p *pair) add(t testing.TB, l []api.Pair, x api.Sample) api.Errno {
	t.Helper()
	p.tell(", add ", x, " to ", l)
	e, want := p.s.Add(l, x), p.m.add(l, x)
	if e != want {
		t.Fatalf("P15.1: %s: %v, for %v", p.trail, e, want)
	}
	p.holdCounts(t)
	return e
}

// must: add what is to be taken.
func (p *pair) must(t testing.TB, l []api.Pair, samples ...api.Sample) {
	t.Helper()
	for _, x := range samples {
		if e := p.add(t, l, x); e != api.OK {
			t.Fatalf("P15.1: %s: %v", p.trail, e)
		}
	}
}

func (p *pair) holdCounts(t testing.TB) {
	t.Helper()
	if got, want := p.s.Now(), p.m.now; got != want {
		t.Fatalf("P15.2: %s: now %d, for %d", p.trail, got, want)
	}
	if got, want := p.s.Len(), p.m.count(); got != want {
		t.Fatalf("P15.2: %s: %d series, for %d", p.trail, got, want)
	}
}

func isSame(a, b [][]api.Pair) bool {
	return slices.EqualFunc(a, b, func(a, b []api.Pair) bool { return slices.Equal(a, b) })
}

func (p *pair) holdSets(t testing.TB, l ...api.Matcher) {
	t.Helper()
	if got, want := p.s.Sets(l...), p.m.setsOf(l...); !isSame(got, want) {
		t.Fatalf("P15.2: %s: sets of %v: %v, for %v", p.trail, l, got, want)
	}
}

// holdPast: what is told of one series over d ticks.
func (p *pair) holdPast(t testing.TB, l []api.Pair, d int) {
	t.Helper()
	x, ok := p.s.Last(l)
	if want, isLast := p.m.last(l); x != want || ok != isLast {
		t.Fatalf("P15.2: %s: last of %v: %v %v, for %v %v", p.trail, l, x, ok, want, isLast)
	}
	window := p.m.window(l, d)
	if got := p.s.Window(l, d); !slices.Equal(got, window) {
		t.Fatalf("P15.2: %s: %d ticks of %v: %v, for %v", p.trail, d, l, got, window)
	}
	told := overOf(window, d)
	for name := range names() {
		got, ok := p.s.Over(l, name, d)
		if want, isTold := told[name]; got != want || ok != isTold {
			t.Fatalf("P15.2: %s: %s over %d ticks of %v: %v %v, for %v %v", p.trail, name, d, window, got, ok, want, isTold)
		}
	}
}

// hold: all that is told of all these series. It is asked twice, as asking changes nothing.
func (p *pair) hold(t testing.TB, sets [][]api.Pair, ticks ...int) {
	t.Helper()
	for range 2 {
		p.holdCounts(t)
		p.holdSets(t)
		for _, l := range sets {
			for _, d := range ticks {
				p.holdPast(t, l, d)
			}
		}
	}
}

// all: the sets of which anything was ever added.
func (p *pair) all() [][]api.Pair {
	out := [][]api.Pair{}
	for _, l := range p.m.sets {
		out = append(out, l)
	}
	return out
}

// edges: the widths of which most hangs on.
func edges() []int {
	return []int{math.MinInt, -1, 0, 1, 2, 3, 10, 50, 99, 100, 101, math.MaxInt}
}

// filled: a store at now with one series of these samples.
func filled(t testing.TB, now int, l []api.Pair, samples ...api.Sample) *pair {
	t.Helper()
	p := newPair()
	for _, x := range samples {
		p.advance(t, x.T)
		p.must(t, l, x)
	}
	p.advance(t, now)
	return p
}

// valued: a series with these values, one at each tick from 1 on, at the last of them.
func valued(t testing.TB, l []api.Pair, values ...api.Num) *pair {
	t.Helper()
	samples := []api.Sample{}
	for i, v := range values {
		samples = append(samples, at(i+1, v))
	}
	return filled(t, len(values), l, samples...)
}

// ticked: samples from one time to another, one at each tick.
func ticked(from, to int) []api.Sample {
	out := []api.Sample{}
	for t := from; t <= to; t++ {
		out = append(out, at(t, n(int64(t)*7-300)))
	}
	return out
}

// value: small ones, great ones, overflow and what counts as that.
func value(r *rand.Rand) api.Num {
	switch r.Intn(24) {
	case 0:
		return over
	case 1:
		return strange()[r.Intn(len(strange()))]
	case 2:
		return n(top - int64(r.Intn(3)))
	case 3:
		return n(-top + int64(r.Intn(3)))
	case 4, 5:
		return n(int64(r.Uint64()) >> r.Intn(64))
	case 6, 7, 8, 9, 10:
		return n(int64(r.Intn(7) - 3))
	}
	return n(int64(r.Intn(2000001) - 1000000))
}

// anySet: one of a few dozen, and now and then what is none.
func anySet(r *rand.Rand, many int) []api.Pair {
	switch r.Intn(30) {
	case 0:
		return wrongSets()[r.Intn(len(wrongSets()))]
	case 1:
		return of()
	case 2:
		return of("__name__", "up", "zone", "x")
	}
	return of("a", fmt.Sprint(r.Intn(many)), "b", []string{"x", "y", "xy"}[r.Intn(3)])
}

// wrongSets: none of these is a label set.
func wrongSets() [][]api.Pair {
	long := of("a", "x", "b", "x", "c", "x", "d", "x", "e", "x", "f", "x", "g", "x", "h", "x", "i", "x")
	return [][]api.Pair{
		of("", "x"), of("9", "x"), of("9a", "x"), of("a-b", "x"), of("a b", "x"), of("a:b", "x"), of("ä", "x"), of("a\n", "x"), of("a\x00", "x"), of("\xff", "x"), of(strings.Repeat("a", 21), "x"), of(strings.Repeat("a", 5000), "x"),
		of("a", ""), of("a", "\n"), of("a", "x\ny"), of("a", strings.Repeat("x", 31)), of("a", strings.Repeat("x", 5000)),
		of("b", "x", "a", "x"), of("a", "x", "c", "x", "b", "x"), of("b", "x", "B", "x"), of("a", "x", "__name__", "up"), of("ab", "x", "a", "x"),
		of("a", "x", "a", "x"), of("a", "x", "a", "y"), of("a", "y", "a", "x"), of("a", "x", "b", "x", "b", "x"),
		of("", ""), of("a", "x", "", ""), of("a", "x", "b", ""), of("a", "", "b", "x"), of("a", "x", "9", "x"), of("__name__", ""), of("__name__", strings.Repeat("u", 31)),
		long,
	}
}
