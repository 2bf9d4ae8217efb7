package history

import (
	"fmt"
	"math"
	"math/rand"
	"slices"
	"strings"
	"testing"

	"spillway/api"
	"spillway/series"
)

// TestExample: nothing added.
func TestExample(t *testing.T) {
	p := newPair()
	if got := p.h.Len(); got != 0 {
		t.Errorf("P16.2: %d samples of nothing", got)
	}
	p.hold(t, [][]api.Pair{nil, of(), of("a", "x"), nth(0)}, p.edges()...)
	p.holdSets(t, 0, match("a", api.MEq, ""))
	// Now is 0.
	if e := p.add(t, nth(0), at(1, n(1))); e != api.ErrTime {
		t.Errorf("P16.1: 1 at 0: %v", e)
	}
	if e := p.add(t, nth(0), at(0, n(1))); e != api.OK {
		t.Errorf("P16.1: 0 at 0: %v", e)
	}
	if got := p.h.Len(); got != 1 {
		t.Errorf("P16.2: %d samples of one", got)
	}
	p.hold(t, p.all(), p.edges()...)
}

// P16.1

// TestTime: now is the greatest that it was advanced to, MaxTime at most.
func TestTime(t *testing.T) {
	for _, c := range []struct {
		to   []int
		want int
	}{
		{nil, 0}, {[]int{0}, 0}, {[]int{-1}, 0}, {[]int{math.MinInt}, 0},
		{[]int{1}, 1}, {[]int{1, 1}, 1}, {[]int{1, 2, 3}, 3}, {[]int{7}, 7}, {[]int{7, 6}, 7}, {[]int{7, 0}, 7}, {[]int{7, -7}, 7}, {[]int{7, math.MinInt}, 7}, {[]int{7, 3, 9, 8}, 9}, {[]int{7, 107}, 107}, {[]int{7, 106, 107, 108}, 108},
		{[]int{999999}, 999999}, {[]int{api.MaxTime}, 1000000}, {[]int{api.MaxTime + 1}, 1000000}, {[]int{math.MaxInt}, 1000000}, {[]int{1 << 32}, 1000000}, {[]int{1<<32 + 5}, 1000000}, {[]int{999999, api.MaxTime + 5}, 1000000}, {[]int{api.MaxTime, 5}, 1000000}, {[]int{api.MaxTime + 9, api.MaxTime - 1}, 1000000}, {[]int{math.MaxInt, math.MinInt}, 1000000},
	} {
		for _, probe := range []struct {
			t    int
			want api.Errno
		}{{c.want + 1, 152}, {c.want, 0}, {c.want - 99, 0}, {c.want - 100, 152}} {
			p := newPair()
			for _, now := range c.to {
				p.advance(t, now)
			}
			if got := p.h.Now(); got != c.want {
				t.Errorf("P16.1: advanced to %v: now %d, for %d", c.to, got, c.want)
			}
			if probe.t < 0 {
				probe.want = 152
			}
			if e := p.add(t, nth(0), at(probe.t, n(1))); e != probe.want {
				t.Errorf("P16.1: advanced to %v: %d: %v, for %v", c.to, probe.t, e, probe.want)
			}
		}
	}
}

func TestAddLabels(t *testing.T) {
	for _, l := range wrongSets() {
		p := newPair()
		p.advance(t, 20)
		p.must(t, of("a", "x"), at(18, n(1)))
		p.must(t, of("b", "x"), at(18, n(2)))
		for _, x := range []api.Sample{at(20, n(7)), at(0, over), at(21, n(7)), at(-1, n(7)), {}, at(18, strange()[0])} {
			if e := p.add(t, l, x); e != api.ErrLabel {
				t.Errorf("P16.1: %q: %v: %v", l, x, e)
			}
		}
		if p.h.Len() != 2 {
			t.Errorf("P16.1: %q: %d samples", l, p.h.Len())
		}
		p.hold(t, append(p.all(), l), -1, 0, 17, 18, 20, 27, 28, 30)
	}
	for _, l := range [][]api.Pair{
		nil, of(), of("a", "x"), of("_", "x"), of("A", "x"), of("__name__", "up"), of("__name__", "no metric's name"), of("a", strings.Repeat("x", 30)), of(strings.Repeat("a", 20), "x"), of("a9_", "\x00"), of("a", "\xff\""), of("a", " "), of("a", "\r"),
		of("B", "x", "a", "x"), of("A", "x", "_", "x", "a", "x"), of("a", "x", "b", "x", "c", "x", "d", "x", "e", "x", "f", "x", "g", "x", "h", "x"),
	} {
		p := newPair()
		p.advance(t, 20)
		p.must(t, l, at(18, n(1)), at(19, n(2)), at(20, n(4)))
		p.hold(t, [][]api.Pair{l, of("zz", "y")}, p.edges()...)
		if got := p.h.Sets(20); len(got) != 1 || !slices.Equal(got[0], l) {
			t.Errorf("P16.1: %q: sets %q", l, got)
		}
	}
}

// TestRowsApart: label sets that differ in anything have rows of their own.
func TestRowsApart(t *testing.T) {
	sets := [][]api.Pair{
		of(), of("a", "b"), of("b", "a"), of("a", "a"), of("b", "b"), of("a", "b", "b", "a"), of("a", "a", "b", "b"), of("A", "b"), of("a", "B"), of("a", "b "), of("a", `b"`), of("a", `b\"`), of("a", `b",b="a`), of("aa", "b"), of("a", "ab"), of("__name__", "a"),
	}
	p := newPair()
	p.advance(t, 50)
	for i, l := range sets {
		p.must(t, l, at(20+i, n(int64(i))), at(50, n(int64(-i))))
	}
	for i, l := range sets {
		if got := p.h.Between(l, -1, 50); !slices.Equal(got, []api.Sample{at(20+i, n(int64(i))), at(50, n(int64(-i)))}) {
			t.Errorf("P16.1: %q: %v", l, got)
		}
	}
	p.hold(t, sets, 19, 20, 35, 49, 50)
}

func TestAddTime(t *testing.T) {
	for _, c := range []struct {
		what  string
		now   int
		there []api.Sample // added when they were new
		t     int
		want  api.Errno
	}{
		{"above now", 220, nil, 221, 152}, {"far above now", 220, nil, math.MaxInt, 152}, {"above MaxTime", api.MaxTime, nil, api.MaxTime + 1, 152}, {"above what now was held at", api.MaxTime + 50, nil, api.MaxTime + 1, 152}, {"above now 0", 0, nil, 1, 152},
		{"at now", 220, nil, 220, 0}, {"at MaxTime", api.MaxTime + 50, nil, api.MaxTime, 0}, {"at now 0", 0, nil, 0, 0}, {"below now", 220, nil, 219, 0},
		{"at now less MaxRange", 220, nil, 120, 152}, {"below that", 220, nil, 119, 152}, {"far below that", 220, nil, 0, 152}, {"farthest", 220, nil, math.MinInt, 152}, {"one above it", 220, nil, 121, 0}, {"at MaxTime less MaxRange", api.MaxTime, nil, api.MaxTime - 100, 152}, {"one above that", api.MaxTime, nil, api.MaxTime - 99, 0},
		{"below 0", 0, nil, -1, 152}, {"below 0, in the window", 50, nil, -1, 152}, {"below 0, at now less MaxRange", 50, nil, -50, 152}, {"far below 0", 50, nil, math.MinInt, 152}, {"at 0, in the window", 99, nil, 0, 0}, {"at 0, at now less MaxRange", 100, nil, 0, 152}, {"at 0", 50, nil, 0, 0},
		// The series is there.
		{"at the last one", 220, ticked(200, 200), 200, 150}, {"below the last one", 220, ticked(200, 200), 199, 150}, {"below the last one, the least", 220, ticked(200, 200), 121, 150}, {"between two", 220, timed(190, 200), 195, 150}, {"at the first of two", 220, ticked(199, 200), 199, 150},
		{"above the last one", 220, ticked(200, 200), 201, 0}, {"far above the last one", 220, ticked(121, 121), 220, 0}, {"above the last one of many", 220, ticked(121, 219), 220, 0}, {"at the last one of many", 220, ticked(100, 220), 220, 150},
		{"at the last one, at 0", 0, ticked(0, 0), 0, 150}, {"at the last one, 0", 99, ticked(0, 0), 0, 150}, {"above the last one, 0", 99, ticked(0, 0), 1, 0}, {"at the last one, at MaxTime", api.MaxTime, ticked(api.MaxTime, api.MaxTime), api.MaxTime, 150},
		{"at the last one, that goes next", 299, ticked(200, 200), 200, 150}, {"above the last one, that goes next", 299, ticked(200, 200), 201, 0}, {"at one that is out, where the last one isn't", 299, ticked(199, 200), 199, 152}, {"at one that isn't the last", 250, ticked(149, 200), 151, 150},
		// It isn't newer, and it is no time: that comes first.
		{"both, at now less MaxRange", 220, ticked(200, 200), 120, 152}, {"both, below 0", 50, ticked(1, 1), -1, 152}, {"both, far below", 220, ticked(220, 220), math.MinInt, 152}, {"newer, but above now", 220, ticked(220, 220), 221, 152}, {"newer, but above what now was held at", api.MaxTime + 5, ticked(api.MaxTime, api.MaxTime), api.MaxTime + 1, 152},
		// The series is gone.
		{"at one that is gone", 300, ticked(200, 200), 200, 152}, {"below one that is gone", 300, ticked(200, 200), 199, 152}, {"above one that is gone", 300, ticked(200, 200), 201, 0}, {"at now, above one that is gone", 300, ticked(200, 200), 300, 0}, {"above one that is gone, but out", 301, ticked(200, 200), 201, 152}, {"long behind it", 1000, ticked(150, 200), 901, 0}, {"long behind it, out", 1000, ticked(150, 200), 900, 152}, {"0, that is gone", 100, ticked(0, 0), 0, 152}, {"above 0, that is gone", 100, ticked(0, 0), 1, 0},
	} {
		p := filled(t, c.now, nth(1), c.there...)
		want := slices.Clone(c.there)
		e := p.add(t, nth(1), at(c.t, n(77)))
		if e != c.want {
			t.Errorf("P16.1: %s: %v, for %v", c.what, e, c.want)
		}
		if e == api.OK {
			want = append(want, at(c.t, n(77)))
		}
		if got := p.h.Between(nth(1), math.MinInt, math.MaxInt); !slices.Equal(got, want) || p.h.Len() != len(want) {
			t.Errorf("P16.1: %s: %d samples: %v, for %v", c.what, p.h.Len(), got, want)
		}
		p.hold(t, [][]api.Pair{nth(1), nth(2)}, p.edges()...)
	}
}

// TestOthersTimes: what isn't newer in one row is in another.
func TestOthersTimes(t *testing.T) {
	p := newPair()
	p.advance(t, 200)
	p.must(t, nth(1), at(150, n(1)), at(200, n(2)))
	p.must(t, nth(2), at(150, n(3)), at(151, n(4)))
	p.must(t, nth(0), at(101, n(5)), at(200, n(6)))
	p.must(t, nth(2), at(200, n(7)))
	p.hold(t, p.all(), p.edges()...)
}

// crowded: as many series as there may be, each with a sample at a time of its own, from 100 on.
func crowded(t testing.TB, now int) *pair {
	t.Helper()
	p := newPair()
	for i := range api.MaxSeries {
		p.advance(t, 100+i)
		p.must(t, nth(i), at(100+i, n(int64(i))))
	}
	p.advance(t, now)
	return p
}

func TestCap(t *testing.T) {
	p := newPair()
	p.advance(t, 5)
	for i := range 100 {
		e, want := p.add(t, nth(i), at(5, n(int64(i)))), api.OK
		if i >= 16 {
			want = api.ErrCap
		}
		if e != want || len(p.h.Sets(5)) != min(i+1, 16) {
			t.Errorf("P16.1: number %d: %v and %d series, for %v", i, e, len(p.h.Sets(5)), want)
		}
	}
	p.hold(t, p.all(), -1, 0, 4, 5, 14, 15, 104, 105)
	// Those that are there take more, while there is no room for others.
	p.advance(t, 6)
	for i := range 16 {
		p.must(t, nth(i), at(6, n(7)))
		if e := p.add(t, nth(20), at(6, n(7))); e != api.ErrCap {
			t.Errorf("P16.1: another one: %v", e)
		}
	}
	p.hold(t, append(p.all(), nth(20)), 4, 5, 6, 105, 106)
	if e := p.add(t, of(), at(6, n(7))); e != api.ErrCap {
		t.Errorf("P16.1: the empty set: %v", e)
	}
	if e := p.add(t, of("zz", "x"), at(6, n(7))); e != api.ErrCap {
		t.Errorf("P16.1: behind all: %v", e)
	}
}

// TestCapWhileOnesGo: there is room for as many others as are gone, though none is forgotten.
func TestCapWhileOnesGo(t *testing.T) {
	for gone := range 17 {
		p := crowded(t, 199+gone)
		for i := range 17 {
			e, want := p.add(t, nth(50+i), at(199+gone, n(9))), api.OK
			if i >= gone {
				want = api.ErrCap
			}
			if e != want {
				t.Errorf("P16.1: %d gone, %d came: %v, for %v", gone, i, e, want)
			}
		}
		// One that is gone finds no room any more, and one that isn't needs none.
		for i := range 16 {
			e, want := p.add(t, nth(i), at(199+gone, n(9))), api.OK
			if i < gone {
				want = api.ErrCap
			}
			if e != want {
				t.Errorf("P16.1: %d gone, number %d again: %v, for %v", gone, i, e, want)
			}
		}
		p.hold(t, p.all(), 99, 100, 107, 198, 199, 207, 199+gone)
	}
}

// TestCapOfManyRows: however many rows there are, those that are gone take no room.
func TestCapOfManyRows(t *testing.T) {
	p := newPair()
	for round := range 12 {
		p.advance(t, 100*round+99)
		for i := range 18 {
			e, want := p.add(t, nth(20*round+i), at(100*round+i, n(9))), api.OK
			if i >= 16 {
				want = api.ErrCap
			}
			if e != want {
				t.Errorf("P16.1: round %d: number %d: %v, for %v", round, i, e, want)
			}
		}
	}
	if got := p.h.Len(); got != 12*16 {
		t.Errorf("P16.3: %d samples", got)
	}
	p.hold(t, p.all(), 0, 15, 99, 115, 1199, 1300)
}

// TestWhichErrorFirst: of several errors the one that the chapter names first.
func TestWhichErrorFirst(t *testing.T) {
	for _, c := range []struct {
		what string
		l    []api.Pair
		t    int
		want api.Errno
	}{
		{"no set, no time, no room", of("9", "x"), 1000, 30}, {"no set, no time below", of("9", "x"), 10, 30}, {"no set, no room", of("9", "x"), 150, 30}, {"no set, like one that is there", of("a", "003", "a", "003"), 103, 30},
		{"no time, no room", nth(50), 151, 152}, {"no time below, no room", nth(50), 50, 152}, {"below 0, no room", nth(50), -1, 152}, {"no room", nth(50), 150, 151}, {"no room, the oldest", nth(50), 51, 151},
		{"no time, there", nth(3), 151, 152}, {"no time, not newer, there", nth(3), 50, 152}, {"not newer, there", nth(3), 103, 150}, {"not newer, there, the oldest", nth(3), 51, 150}, {"newer, there", nth(3), 104, 0},
	} {
		p := crowded(t, 150)
		if e := p.add(t, c.l, at(c.t, n(5))); e != c.want {
			t.Errorf("P16.1: %s: %v, for %v", c.what, e, c.want)
		}
	}
	// One that is gone, and there is no room: it isn't held against its own last sample.
	p := crowded(t, 200)
	p.must(t, nth(50), at(150, n(5)))
	for when, want := range map[int]api.Errno{100: 152, 101: 151, 200: 151, 201: 152} {
		if e := p.add(t, nth(0), at(when, n(5))); e != want {
			t.Errorf("P16.1: one that is gone, at %d: %v, for %v", when, e, want)
		}
	}
}

// TestRefusedChangesNothing: what is refused neither adds anything, nor is in anything's way.
func TestRefusedChangesNothing(t *testing.T) {
	for _, v := range append(strange(), over, n(top), n(5), n(-top)) {
		p := crowded(t, 150)
		p.must(t, nth(3), at(140, n(5)))
		was := p.copied()
		for _, l := range append(wrongSets(), of(), nth(3), nth(50)) {
			for _, bad := range []int{math.MinInt, -1, 0, 50, 51, 139, 140, 151, math.MaxInt} {
				if e := p.add(t, l, at(bad, v)); e == api.OK {
					t.Errorf("P16.1: %v at %d was taken", l, bad)
				}
			}
		}
		if !isSame(p.h.Sets(150), was.h.Sets(150)) || p.h.Len() != 17 {
			t.Errorf("P16.1: %d samples of %v, for %v", p.h.Len(), p.h.Sets(150), was.h.Sets(150))
		}
		p.hold(t, append(p.all(), of(), nth(50)), 50, 51, 139, 140, 150)
		p.must(t, nth(3), at(141, n(5)), at(142, v), at(150, n(5)))
		p.advance(t, 200)
		p.must(t, nth(50), at(150, n(5)))
		p.hold(t, append(p.all(), of(), nth(50)), 50, 140, 142, 150, 200)
	}
}

// TestComesAgain: the row of a series that was gone goes on behind.
func TestComesAgain(t *testing.T) {
	for _, now := range []int{300, 301, 399, 400, 10000, api.MaxTime} {
		for _, back := range []int{0, 1, 50, 99} {
			p := filled(t, now, nth(1), ticked(101, 200)...)
			p.must(t, nth(1), at(now-back, n(4)))
			want := append(ticked(101, 200), at(now-back, n(4)))
			if got := p.h.Between(nth(1), 0, now); !slices.Equal(got, want) {
				t.Errorf("P16.1: again at %d: %v", now-back, got)
			}
			if got := p.h.Len(); got != 101 {
				t.Errorf("P16.2: again at %d: %d samples", now-back, got)
			}
			if got := p.h.Sets(now); !isSame(got, [][]api.Pair{nth(1)}) {
				t.Errorf("P16.2: again at %d: %q", now-back, got)
			}
			if e := p.add(t, nth(1), at(now-back, n(4))); e != api.ErrOld {
				t.Errorf("P16.1: again at %d, twice: %v", now-back, e)
			}
			p.hold(t, p.all(), p.edges()...)
		}
	}
	// Again and again.
	p := newPair()
	want := []api.Sample{}
	for now := 0; now <= 3000; now += 150 {
		p.advance(t, now)
		p.must(t, nth(1), at(now, n(int64(now))))
		want = append(want, at(now, n(int64(now))))
		if got := p.h.Between(nth(1), -1, now); !slices.Equal(got, want) {
			t.Errorf("P16.1: again at %d: %v", now, got)
		}
	}
	p.hold(t, p.all(), p.edges()...)
}

// TestStrangeValues: what isn't fix's Is counts as Ovf, and is told as that.
func TestStrangeValues(t *testing.T) {
	for _, v := range append(strange(), over) {
		p := filled(t, 3, nth(1), at(1, n(5)), at(2, v), at(3, n(7)))
		if got := p.h.Between(nth(1), 0, 3); !slices.Equal(got, []api.Sample{at(1, n(5)), at(2, over), at(3, n(7))}) {
			t.Errorf("P16.1: %v: %v", v, got)
		}
		if x, ok := p.h.At(nth(1), 2); x != at(2, over) || !ok {
			t.Errorf("P16.1: %v: %v %v", v, x, ok)
		}
		p.copied().hold(t, p.all(), p.edges()...)
		p = filled(t, 1, nth(1), at(1, v))
		if x, ok := p.h.At(nth(1), 1); x != at(1, over) || !ok {
			t.Errorf("P16.1: %v: %v %v", v, x, ok)
		}
	}
	for _, v := range []api.Num{n(top), n(-top), n(0), n(1), n(-1)} {
		p := filled(t, 1, nth(1), at(1, v))
		if x, ok := p.h.At(nth(1), 1); x != at(1, v) || !ok {
			t.Errorf("P16.1: %v: %v %v", v, x, ok)
		}
	}
}

// TestAsSeries: what a store of series accepts and tells of now, a history accepts and tells of its now.
func TestAsSeries(t *testing.T) {
	r := rand.New(rand.NewSource(160))
	for range 60 {
		h, s := New(), series.New()
		many, far := 1+r.Intn(9), 1+r.Intn(60)
		for range 300 {
			if r.Intn(4) == 0 {
				now := h.Now() + r.Intn(far) - far/4
				h.Advance(now)
				s.Advance(now)
			}
			l, x := anySet(r, many), at(h.Now()-r.Intn(1+r.Intn(far))+r.Intn(2), value(r))
			if e, want := h.Add(l, x), s.Add(l, x); e != want || h.Now() != s.Now() {
				t.Fatalf("P16.1: %v to %v at %d: %v, for %v at %d", x, l, h.Now(), e, want, s.Now())
			}
			m, now, d := anyMatchers(r), h.Now(), 1+r.Intn(100)
			if got, want := h.Sets(now, m...), s.Sets(m...); !isSame(got, want) {
				t.Fatalf("P16.2: at %d: %v: %q, for %q", now, m, got, want)
			}
			got, ok := h.At(l, now)
			if want, isTold := s.Last(l); got != want || ok != isTold {
				t.Fatalf("P16.2: %v at %d: %v %v, for %v %v", l, now, got, ok, want, isTold)
			}
			if got, want := h.Between(l, now-d, now), s.Window(l, d); !slices.Equal(got, want) {
				t.Fatalf("P16.2: %v from %d to %d: %v, for %v", l, now-d, now, got, want)
			}
		}
	}
}

// P16.2

// TestSetsTimes: a set is told at the times from a sample's T to 99 ticks behind it, whatever now is.
func TestSetsTimes(t *testing.T) {
	times := []int{200, 250, 400, 401, 501, 620}
	for _, now := range []int{620, 621, 5000, api.MaxTime} {
		p := filled(t, now, nth(1), timed(times...)...)
		for when, want := range map[int]int{
			math.MinInt: 0, math.MinInt + 99: 0, math.MinInt + 100: 0, -100: 0, -1: 0, 0: 0, 100: 0, 199: 0,
			200: 1, 201: 1, 249: 1, 250: 1, 299: 1, 300: 1, 349: 1, 350: 0, 351: 0, 399: 0, 400: 1, 401: 1, 499: 1, 500: 1, 501: 1, 600: 1, 601: 0, 619: 0, 620: 1, 719: 1,
			720: 0, 721: 0, 820: 0, api.MaxTime: 0, api.MaxTime + 1: 0, math.MaxInt: 0,
		} {
			if got := p.h.Sets(when); len(got) != want {
				t.Errorf("P16.2: sets at %d: %q, for %d", when, got, want)
			}
			if got := p.h.Sets(when, match("a", api.MNe, "x")); len(got) != want {
				t.Errorf("P16.2: sets that match at %d: %q, for %d", when, got, want)
			}
			if got := p.h.Sets(when, match("a", api.MEq, "x")); len(got) != 0 {
				t.Errorf("P16.2: sets that don't match at %d: %q", when, got)
			}
			p.holdSets(t, when)
		}
	}
	// At 0, and at the end of time.
	p := filled(t, 0, nth(1), at(0, n(1)))
	p.advance(t, api.MaxTime)
	p.must(t, nth(2), at(api.MaxTime, n(1)))
	for when, want := range map[int]string{-1: "", 0: "001", 99: "001", 100: "", api.MaxTime - 1: "", api.MaxTime: "002", api.MaxTime + 99: "002", api.MaxTime + 100: "", math.MaxInt: ""} {
		got := p.h.Sets(when)
		if len(got) > 1 || len(got) == 1 && got[0][0].Value != want || (len(got) == 1) != (want != "") {
			t.Errorf("P16.2: sets at %d: %q, for %q", when, got, want)
		}
	}
	// Each of several by its own samples, older ones that came later too.
	p = crowded(t, 150)
	for when := 90; when < 260; when++ {
		want := 0
		for i := range 16 {
			if 100+i <= when && 100+i > when-100 {
				want++
			}
		}
		if got := len(p.h.Sets(when)); got != want {
			t.Errorf("P16.2: at %d: %d sets, for %d", when, got, want)
		}
	}
	p.advance(t, 210)
	p.must(t, nth(50), at(111, n(1)))
	if got := len(p.h.Sets(111)); got != 13 {
		t.Errorf("P16.2: at 111, with one that came later: %d sets", got)
	}
}

func TestSetsMatch(t *testing.T) {
	up, down, bare, both := of("__name__", "up", "job", "a"), of("__name__", "down", "job", "a"), of("job", "b"), of("job", "b", "zone", "x")
	p := newPair()
	p.advance(t, 9)
	for _, l := range [][]api.Pair{both, up, of(), bare, down} {
		p.must(t, l, at(9, n(1)))
	}
	for _, c := range []struct {
		m    []api.Matcher
		want [][]api.Pair
	}{
		{nil, [][]api.Pair{of(), down, up, bare, both}}, {[]api.Matcher{}, [][]api.Pair{of(), down, up, bare, both}},
		{[]api.Matcher{match("job", api.MEq, "a")}, [][]api.Pair{down, up}}, {[]api.Matcher{match("job", api.MEq, "b")}, [][]api.Pair{bare, both}}, {[]api.Matcher{match("job", api.MEq, "c")}, nil}, {[]api.Matcher{match("job", api.MEq, "")}, [][]api.Pair{of()}},
		{[]api.Matcher{match("job", api.MNe, "a")}, [][]api.Pair{of(), bare, both}}, {[]api.Matcher{match("job", api.MNe, "")}, [][]api.Pair{down, up, bare, both}}, {[]api.Matcher{match("zone", api.MNe, "")}, [][]api.Pair{both}}, {[]api.Matcher{match("zone", api.MEq, "")}, [][]api.Pair{of(), down, up, bare}},
		{[]api.Matcher{match("__name__", api.MPrefix, "d")}, [][]api.Pair{down}}, {[]api.Matcher{match("__name__", api.MPrefix, "")}, [][]api.Pair{of(), down, up, bare, both}}, {[]api.Matcher{match("__name__", api.MGlob, "*")}, [][]api.Pair{of(), down, up, bare, both}}, {[]api.Matcher{match("__name__", api.MGlob, "?*")}, [][]api.Pair{down, up}}, {[]api.Matcher{match("__name__", api.MGlob, "u?")}, [][]api.Pair{up}}, {[]api.Matcher{match("__name__", api.MEq, "u?")}, nil},
		{[]api.Matcher{match("job", api.MEq, "b"), match("zone", api.MEq, "x")}, [][]api.Pair{both}}, {[]api.Matcher{match("job", api.MEq, "b"), match("zone", api.MNe, "x")}, [][]api.Pair{bare}}, {[]api.Matcher{match("job", api.MEq, "a"), match("job", api.MEq, "b")}, nil}, {[]api.Matcher{match("job", api.MNe, "a"), match("job", api.MNe, "b")}, [][]api.Pair{of()}}, {[]api.Matcher{match("job", api.MEq, "a"), match("job", api.MEq, "a"), match("__name__", api.MGlob, "*p")}, [][]api.Pair{up}},
		// Of other kinds none matches.
		{[]api.Matcher{{}}, nil}, {[]api.Matcher{match("job", 0, "a")}, nil}, {[]api.Matcher{match("job", 5, "a")}, nil}, {[]api.Matcher{match("job", -1, "a")}, nil}, {[]api.Matcher{match("job", math.MaxInt, "a"), match("job", api.MEq, "a")}, nil},
		// Of other names and texts, what pattern tells.
		{[]api.Matcher{match("", api.MEq, "")}, [][]api.Pair{of(), down, up, bare, both}}, {[]api.Matcher{match("9", api.MNe, "")}, nil}, {[]api.Matcher{match("job", api.MNe, strings.Repeat("a\n", 5000))}, [][]api.Pair{of(), down, up, bare, both}},
	} {
		for _, when := range []int{9, 50, 108, 9} {
			if got := p.h.Sets(when, c.m...); !isSame(got, c.want) {
				t.Errorf("P16.2: %v at %d: %q, for %q", c.m, when, got, c.want)
			}
		}
		for _, when := range []int{math.MinInt, -1, 8, 109, math.MaxInt} {
			if got := p.h.Sets(when, c.m...); len(got) != 0 {
				t.Errorf("P16.2: %v at %d: %q", c.m, when, got)
			}
		}
	}
}

// TestSetsInOrder: whichever came first.
func TestSetsInOrder(t *testing.T) {
	sets := [][]api.Pair{
		of(), of("A", "x"), of("__name__", "B"), of("__name__", "a"), of("__name__", "a", "b", "x"), of("a", "0"), of("a", "1"), of("a", "1", "b", "0"), of("a", "1", "c", "0"), of("a", "10"), of("a", "9"), of("a", "9", "b", "x"), of("a0", "0"), of("aa", "0"), of("b", "\x01"), of("b", "\xff"),
	}
	r := rand.New(rand.NewSource(161))
	for range 200 {
		p := newPair()
		p.advance(t, 9)
		for _, i := range r.Perm(len(sets)) {
			p.must(t, sets[i], at(9, n(1)))
		}
		if got := p.h.Sets(9); !isSame(got, sets) {
			t.Fatalf("P16.2: %s: %q", p.trail, got)
		}
	}
}

func TestAt(t *testing.T) {
	for _, now := range []int{220, 300, 5000, api.MaxTime} {
		p := filled(t, now, nth(1), timed(190, 200, 203, 220)...)
		for when, want := range map[int]int{
			math.MinInt: 0, math.MinInt + 9: 0, math.MinInt + 10: 0, -10: 0, -1: 0, 0: 0, 1: 0, 180: 0, 189: 0,
			190: 190, 191: 190, 199: 190, 200: 200, 201: 200, 202: 200, 203: 203, 204: 203, 211: 203, 212: 203, 213: 0, 214: 0, 219: 0,
			220: 220, 221: 220, 228: 220, 229: 220, 230: 0, 231: 0, 319: 0, 320: 0, api.MaxTime: 0, api.MaxTime + 1: 0, math.MaxInt: 0,
		} {
			x, ok := p.h.At(nth(1), when)
			if x.T != want || ok != (want > 0) || ok && x != timed(want)[0] || !ok && x != (api.Sample{}) {
				t.Errorf("P16.2: at %d, now %d: %v %v, for %d", when, now, x, ok, want)
			}
			for _, l := range append(wrongSets(), nil, nth(2), of("a", "001", "b", "x"), of("A", "001")) {
				if x, ok := p.h.At(l, when); x != (api.Sample{}) || ok {
					t.Errorf("P16.2: %q at %d: %v %v", l, when, x, ok)
				}
			}
		}
	}
	// One at 0, of which all is zero.
	p := filled(t, 50, nth(1), at(0, n(0)))
	for when, want := range map[int]bool{math.MinInt: false, -1: false, 0: true, 9: true, 10: false, math.MaxInt: false} {
		if x, ok := p.h.At(nth(1), when); x != (api.Sample{}) || ok != want {
			t.Errorf("P16.2: 0 at %d: %v %v", when, x, ok)
		}
	}
	// One that came late is told of the time at which it was.
	p = filled(t, 200, nth(1), at(120, n(1)))
	p.must(t, nth(1), at(150, n(2)))
	for when, want := range map[int]int{120: 120, 129: 120, 130: 0, 149: 0, 150: 150, 159: 150, 160: 0, 200: 0} {
		if x, ok := p.h.At(nth(1), when); x.T != want || ok != (want > 0) {
			t.Errorf("P16.2: at %d: %v %v, for %d", when, x, ok, want)
		}
	}
}

func TestBetween(t *testing.T) {
	all := timed(0, 3, 4, 50, 120, 300)
	p := filled(t, 310, nth(1), all...)
	p.must(t, nth(2), at(305, n(8)))
	for _, c := range []struct{ from, to, first, end int }{
		{math.MinInt, math.MaxInt, 0, 6}, {-1, 310, 0, 6}, {-1, 300, 0, 6}, {-1, 299, 0, 5}, {-1, 301, 0, 6}, {math.MinInt, 300, 0, 6}, {-1, math.MaxInt, 0, 6}, {-100, api.MaxTime + 1, 0, 6},
		{0, 310, 1, 6}, {1, 310, 1, 6}, {2, 310, 1, 6}, {3, 310, 2, 6}, {4, 310, 3, 6}, {49, 310, 3, 6}, {50, 310, 4, 6}, {119, 310, 4, 6}, {120, 310, 5, 6}, {299, 310, 5, 6}, {300, 310, 6, 6}, {301, 310, 6, 6}, {310, 310, 6, 6},
		{-1, 0, 0, 1}, {-1, 1, 0, 1}, {-1, 2, 0, 1}, {-1, 3, 0, 2}, {-1, 4, 0, 3}, {-1, 5, 0, 3}, {-1, -1, 0, 0}, {-5, -1, 0, 0}, {math.MinInt, -1, 0, 0}, {math.MinInt, math.MinInt, 0, 0},
		{3, 50, 2, 4}, {2, 50, 1, 4}, {3, 49, 2, 3}, {2, 49, 1, 3}, {3, 4, 2, 3}, {2, 3, 1, 2}, {4, 49, 3, 3}, {5, 10, 3, 3}, {49, 50, 3, 4}, {50, 119, 4, 4}, {50, 120, 4, 5},
		// From isn't below to.
		{3, 3, 2, 2}, {4, 3, 2, 2}, {50, 3, 2, 2}, {0, 0, 1, 1}, {0, -1, 0, 0}, {310, -1, 0, 0}, {120, 50, 0, 0}, {math.MaxInt, math.MinInt, 0, 0}, {math.MaxInt, math.MaxInt, 0, 0}, {math.MaxInt, 300, 0, 0}, {0, math.MinInt, 0, 0}, {300, 299, 0, 0}, {1000, 999, 0, 0},
	} {
		for range 2 {
			if got := p.h.Between(nth(1), c.from, c.to); !slices.Equal(got, all[c.first:c.end]) {
				t.Errorf("P16.2: from %d to %d: %v, for %v", c.from, c.to, got, all[c.first:c.end])
			}
		}
		for _, l := range append(wrongSets(), nil, nth(3), of("a", "001", "b", "x")) {
			if got := p.h.Between(l, c.from, c.to); len(got) != 0 {
				t.Errorf("P16.2: %q from %d to %d: %v", l, c.from, c.to, got)
			}
		}
	}
	// Of one sample.
	for _, c := range []struct{ from, to, want int }{{304, 305, 1}, {305, 305, 0}, {305, 306, 0}, {303, 304, 0}, {305, 304, 0}, {-1, 305, 1}, {304, math.MaxInt, 1}, {305, math.MaxInt, 0}} {
		if got := p.h.Between(nth(2), c.from, c.to); len(got) != c.want || c.want > 0 && got[0] != at(305, n(8)) {
			t.Errorf("P16.2: one from %d to %d: %v, for %d", c.from, c.to, got, c.want)
		}
	}
	// Far more than a window's.
	p = filled(t, 2000, nth(1), ticked(0, 1000)...)
	for _, c := range []struct{ from, to int }{{-1, 1000}, {0, 999}, {99, 101}, {100, 900}, {500, 600}, {899, 900}} {
		if got := p.h.Between(nth(1), c.from, c.to); !slices.Equal(got, ticked(c.from+1, c.to)) {
			t.Errorf("P16.2: from %d to %d: %d samples", c.from, c.to, len(got))
		}
	}
}

func TestLen(t *testing.T) {
	p := newPair()
	count := 0
	for now := 0; now < 1000; now += 30 {
		p.advance(t, now)
		for i, x := range []struct {
			l    []api.Pair
			t    int
			want api.Errno
		}{
			{nth(now), now, 0}, {nth(now), now, 150}, {nth(0), now, 0}, {nth(0), now, 150}, {nth(1), now + 1, 152}, {nth(1), now - 100, 152}, {of("9", "x"), now, 30},
		} {
			if now == 0 && i == 2 {
				x.want = 150 // it is the first one
			}
			if e := p.add(t, x.l, at(x.t, n(1))); e != x.want {
				t.Errorf("P16.1: at %d: %v, for %v", now, e, x.want)
			} else if e == api.OK {
				count++
			}
			if p.h.Len() != count {
				t.Errorf("P16.2: at %d: %d samples, for %d", now, p.h.Len(), count)
			}
		}
	}
	p.advance(t, api.MaxTime)
	if p.h.Len() != 67 {
		t.Errorf("P16.2: %d samples", p.h.Len())
	}
}

// TestCopy: neither hears of what the other is told.
func TestCopy(t *testing.T) {
	sets := [][]api.Pair{of(), nth(2), nth(3), nth(15), nth(16), nth(17)}
	tell := []func(p *pair){
		func(p *pair) {},
		func(p *pair) { p.advance(t, 190) },
		func(p *pair) { p.advance(t, 5000) },
		func(p *pair) { p.must(t, nth(3), at(116, n(70)), at(150, over)) },
		func(p *pair) { p.must(t, nth(3), at(116, n(75))) },
		func(p *pair) { p.must(t, nth(15), at(116, n(71))) },
		func(p *pair) { p.advance(t, 201); p.must(t, nth(17), at(201, n(72))) },
		func(p *pair) { p.advance(t, 300); p.must(t, nth(3), at(300, n(73))); p.must(t, of(), at(299, n(74))) },
	}
	for first, others := range [][]int{{1, 2}, {0, 2}, {0, 1}} {
		for _, second := range others {
			for j := range tell {
				for k := range tell {
					l := []*pair{crowded(t, 150)}
					l = append(l, l[0].copied())
					l = append(l, l[1].copied())
					tell[j](l[first])
					tell[k](l[second])
					for _, p := range l {
						p.hold(t, sets, 103, 116, 150, 201, 300)
					}
				}
			}
		}
	}
	// Of an empty one, and of one in which all are gone.
	for _, p := range []*pair{newPair(), filled(t, 300, nth(1), at(200, n(1))), filled(t, math.MaxInt, nth(1), at(200, n(1)))} {
		c := p.copied()
		c.hold(t, sets, c.edges()...)
		c.must(t, nth(2), at(c.m.now, n(1)))
		c.hold(t, sets, c.edges()...)
		p.hold(t, sets, p.edges()...)
	}
	// Of one with room behind its samples.
	for many := range 20 {
		p := newPair()
		p.advance(t, 90)
		p.must(t, nth(1), ticked(1, many)...)
		l := []*pair{p, p.copied(), p.copied()}
		l = append(l, l[1].copied())
		for i, p := range l {
			p.must(t, nth(1), at(many+1, n(int64(i))), at(many+2, n(int64(i*7))))
		}
		for _, p := range l {
			p.hold(t, p.all(), 0, many, many+1, many+2)
		}
	}
}

// P16.3

// TestStays: what was accepted is told as at the first, whatever comes later.
func TestStays(t *testing.T) {
	r := rand.New(rand.NewSource(162))
	for range 20 {
		h := New()
		accepted := []entry{}
		for range 400 {
			if r.Intn(5) == 0 {
				h.Advance(h.Now() + r.Intn(70) - 5)
			}
			if r.Intn(100) == 0 {
				h = h.Copy()
			}
			l, x := anySet(r, 9), at(h.Now()-r.Intn(120)+r.Intn(2), n(int64(r.Intn(1000))))
			if h.Add(l, x) == api.OK {
				accepted = append(accepted, entry{l, x})
			}
		}
		for _, now := range []int{h.Now() + 100, 50000, api.MaxTime} {
			h.Advance(now)
			h.Add(nth(1), at(now, over))
			for _, x := range accepted {
				if got := h.Between(x.set, x.T-1, x.T); !slices.Equal(got, []api.Sample{x.Sample}) {
					t.Fatalf("P16.3: %v of %v at %d: %v", x.Sample, x.set, now, got)
				}
				if got, ok := h.At(x.set, x.T); got != x.Sample || !ok {
					t.Fatalf("P16.3: %v of %v at %d: %v %v", x.Sample, x.set, now, got, ok)
				}
				if got := h.Sets(x.T); !slices.ContainsFunc(got, func(l []api.Pair) bool { return slices.Equal(l, x.set) }) {
					t.Fatalf("P16.3: %v of %v at %d: sets %q", x.Sample, x.set, now, got)
				}
			}
		}
		if len(accepted) < 100 || h.Len() < len(accepted)+2 || h.Len() > len(accepted)+3 {
			t.Fatalf("P16.3: %d samples, for %d", h.Len(), len(accepted))
		}
	}
}

// TestLongPast: far more samples than are ever there, and far more rows.
func TestLongPast(t *testing.T) {
	h, up := New(), of("up", "x")
	count := 0
	for now := range 200001 {
		h.Advance(now)
		if e := h.Add(up, at(now, n(int64(now)*3))); e != api.OK {
			t.Fatalf("P16.1: %d: %v", now, e)
		}
		count++
		if now%100 == 0 {
			if e := h.Add(of("z", fmt.Sprint(now)), at(now, n(5))); e != api.OK {
				t.Fatalf("P16.1: %d: %v", now, e)
			}
			count++
		}
	}
	if h.Len() != count {
		t.Errorf("P16.3: %d samples, for %d", h.Len(), count)
	}
	for when := 0; when <= 200000; when += 997 {
		if x, ok := h.At(up, when); x != at(when, n(int64(when)*3)) || !ok {
			t.Fatalf("P16.3: at %d: %v %v", when, x, ok)
		}
		if got := h.Sets(when); !isSame(got, [][]api.Pair{up, of("z", fmt.Sprint(when/100*100))}) {
			t.Fatalf("P16.3: at %d: %q", when, got)
		}
	}
	if got := h.Between(up, -1, math.MaxInt); len(got) != 200001 || got[123456] != at(123456, n(123456*3)) {
		t.Errorf("P16.3: %d samples of one row", len(got))
	}
}

// Against the model.

// TestAllShortPasts: each row of a few calls.
func TestAllShortPasts(t *testing.T) {
	sets := [][]api.Pair{of("a", "x"), of()}
	calls := []func(p *pair){}
	for _, step := range []int{-1, 1, 9, 10, 99, 100} {
		calls = append(calls, func(p *pair) { p.advance(t, p.m.now+step) })
	}
	for _, back := range []int{-1, 0, 1, 99, 100} {
		calls = append(calls, func(p *pair) { p.add(t, sets[0], at(p.m.now-back, n(int64(p.m.now%7)))) })
	}
	calls = append(calls, func(p *pair) { p.add(t, sets[1], at(p.m.now, over)) }, func(p *pair) { *p = *p.copied() })
	const long = 4
	pasts := 1
	for range long {
		pasts *= len(calls)
	}
	for past := range pasts {
		p := newPair()
		for range long {
			calls[past%len(calls)](p)
			past /= len(calls)
		}
		for _, when := range []int{0, 1, p.m.now - 1, p.m.now, p.m.now + 99} {
			p.holdSets(t, when)
			p.holdAt(t, sets[0], when)
			p.holdBetween(t, sets[0], 0, when)
			p.holdBetween(t, sets[1], when, p.m.now)
		}
	}
}

func TestRandomPasts(t *testing.T) {
	r := rand.New(rand.NewSource(163))
	for range 60 {
		p := newPair()
		many, far := 1+r.Intn(9), 1+r.Intn(60)
		if r.Intn(5) == 0 {
			p.advance(t, api.MaxTime-r.Intn(400))
		}
		when := func() int { return p.m.now - r.Intn(1+r.Intn(600)) + r.Intn(40) }
		for range 300 {
			switch what := r.Intn(20); {
			case what < 4:
				p.advance(t, p.m.now+r.Intn(far)-far/4)
			case what == 4 && r.Intn(10) == 0:
				p.advance(t, p.m.now+100)
			case what == 5 && r.Intn(10) == 0:
				p = p.copied()
			default:
				p.add(t, anySet(r, many), at(p.m.now-r.Intn(1+r.Intn(far))+r.Intn(2), value(r)))
			}
			p.holdAt(t, anySet(r, many), when())
			p.holdBetween(t, anySet(r, many), when(), when())
			p.holdSets(t, when(), anyMatchers(r)...)
		}
		p.hold(t, p.all(), when(), when(), when(), p.m.now, math.MaxInt, math.MinInt)
	}
}

// What stands for each call.

// TestHandedInStays: neither labels nor matchers nor the spare room behind them are changed or kept.
func TestHandedInStays(t *testing.T) {
	room := of("a", "x", "b", "y", "c", "z", "d", "w")
	l := room[1:3]
	was := slices.Clone(room)
	rule := []api.Matcher{match("b", api.MEq, "y"), match("c", api.MNe, ""), match("d", api.MEq, "w")}
	asked := rule[:2]
	wasAsked := slices.Clone(rule)
	p := newPair()
	p.advance(t, 9)
	for i, x := range []api.Sample{at(8, n(5)), at(8, n(6)), at(9, n(7)), at(10, n(8))} {
		if e, want := p.h.Add(l, x), p.m.add(slices.Clone(l), x); e != want {
			t.Errorf("P16.1: number %d: %v, for %v", i, e, want)
		}
		if got := p.h.Sets(9, asked...); !isSame(got, [][]api.Pair{of("b", "y", "c", "z")}) {
			t.Errorf("P16.2: %q", got)
		}
		p.h.At(l, 9)
		p.h.Between(l, 0, 9)
		p.h.Copy().Add(l, at(9, n(3)))
		if !slices.Equal(room, was) || !slices.Equal(rule, wasAsked) {
			t.Fatalf("P16.1: number %d: left %q and %v", i, room, rule)
		}
	}
	// What is done with the list afterwards is done to nothing that is told, in a copy neither.
	c := p.copied()
	for i := range room {
		room[i] = api.Pair{Name: "q", Value: "q"}
	}
	for _, p := range []*pair{p, c} {
		p.hold(t, [][]api.Pair{of("b", "y", "c", "z"), l}, 7, 8, 9)
		p.holdSets(t, 9, match("b", api.MEq, "y"))
	}
}

// TestAnswersAreNew: what is done with an answer and the room behind it is done to no other one, nor to the history.
func TestAnswersAreNew(t *testing.T) {
	p := newPair()
	p.advance(t, 50)
	sets := [][]api.Pair{of("a", "x"), of("a", "x", "b", "y"), of("b", "y")}
	for _, l := range sets {
		p.must(t, l, ticked(20, 48)...)
	}
	earlier, c := p.h.Sets(50), p.copied()
	past := p.h.Between(sets[0], 0, 50)
	for i, h := range []*History{p.h, c.h, p.h.Copy()} {
		spoilSets(h.Sets(50))
		spoilSets(h.Sets(50, match("a", api.MEq, "x")))
		for _, from := range []int{-1, 19, 20, 40, 47, 48, 49} {
			for _, to := range []int{0, 20, 21, 47, 48, 49} {
				got := h.Between(sets[0], from, to)
				got = got[:cap(got)]
				for i := range got {
					got[i] = at(-7, n(-7))
				}
			}
		}
		// Samples that are added afterwards come behind what was told.
		if i < 2 {
			p := []*pair{p, c}[i]
			p.must(t, sets[0], at(49, n(1)), at(50, n(2)))
		}
		for _, p := range []*pair{p, c} {
			p.hold(t, sets, 19, 20, 47, 48, 49, 50)
			p.holdSets(t, 50, match("a", api.MEq, "x"))
		}
		if !isSame(earlier, sets) || !slices.Equal(past, ticked(20, 48)) {
			t.Fatalf("P16.2: what was told before is %q and %v", earlier, past)
		}
	}
	// No two lists of one answer share any memory.
	got := p.h.Sets(50)
	for i, l := range got {
		l = l[:cap(l)]
		for j := range l {
			l[j] = api.Pair{Name: "q", Value: "q"}
		}
		if !isSame(got[i+1:], sets[i+1:]) {
			t.Fatalf("P16.2: %q, with %d spoilt", got, i+1)
		}
	}
}

func spoilSets(got [][]api.Pair) {
	got = got[:cap(got)]
	for i, l := range got {
		l = l[:cap(l)]
		for j := range l {
			l[j] = api.Pair{Name: "q", Value: "q"}
		}
		got[i] = nil
	}
}

// TestAlone: what one is told the others don't hear of.
func TestAlone(t *testing.T) {
	r := rand.New(rand.NewSource(164))
	l := []*pair{newPair(), newPair(), newPair()}
	for range 1000 {
		p := l[r.Intn(len(l))]
		if r.Intn(4) == 0 {
			p.advance(t, p.m.now+r.Intn(20))
		} else {
			p.add(t, anySet(r, 3), at(p.m.now-r.Intn(3), value(r)))
		}
		for _, other := range l {
			other.holdSets(t, other.m.now)
			other.holdBetween(t, anySet(r, 3), -1, math.MaxInt)
		}
	}
}

func FuzzHistory(f *testing.F) {
	f.Add([]byte{3, 1, 8, 150, 2, 7, 200, 9, 255, 130, 3, 4})
	f.Add([]byte{0, 1, 0, 101, 130, 60, 77, 254, 12, 3, 103, 9})
	f.Add([]byte{255, 255, 128, 0, 2, 1, 100, 100, 100})
	f.Fuzz(func(t *testing.T, calls []byte) {
		p := newPair()
		for i := 0; i+2 < len(calls) && i < 400; i += 3 {
			r := rand.New(rand.NewSource(int64(calls[i+1])))
			l, much := anySet(r, 8), int(calls[i+2])
			switch what := int(calls[i]); {
			case what < 80:
				p.advance(t, p.m.now+much/4-5)
			case what == 80:
				p.advance(t, api.MaxTime+much-128)
			case what < 84:
				p = p.copied()
			case what < 240:
				p.add(t, l, at(p.m.now-what%8+1, n(int64(much)/16-8)))
			default:
				p.add(t, l, at(p.m.now-what%3, value(r)))
			}
			p.holdAt(t, l, p.m.now+10-much/4)
			p.holdBetween(t, l, p.m.now-much, p.m.now-much/9)
			p.holdSets(t, p.m.now+20-much, anyMatchers(r)...)
		}
		p.hold(t, p.all(), -1, 0, p.m.now-50, p.m.now, p.m.now+50)
	})
}
