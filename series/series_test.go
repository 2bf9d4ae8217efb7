package series

import (
	"fmt"
	"math"
	"math/rand"
	"runtime"
	"slices"
	"strings"
	"testing"

	"spillway/api"
)

func TestExample(t *testing.T) {
	s, up := New(), of("__name__", "up", "job", "a")
	s.Advance(7)
	if e := s.Add(up, at(7, n(5))); e != api.OK {
		t.Errorf("P15.1: %v", e)
	}
	if x, ok := s.Last(up); x != at(7, n(5)) || !ok {
		t.Errorf("P15.2: %v %v", x, ok)
	}
}

func TestNew(t *testing.T) {
	p := newPair()
	for _, l := range [][]api.Pair{of(), of("a", "x"), nth(0)} {
		for _, d := range edges() {
			p.holdPast(t, l, d)
		}
	}
	p.holdSets(t)
	// Now is 0.
	if e := p.add(t, nth(0), at(1, n(1))); e != api.ErrTime {
		t.Errorf("P15.1: 1 at 0: %v", e)
	}
	if e := p.add(t, nth(0), at(0, n(1))); e != api.OK {
		t.Errorf("P15.1: 0 at 0: %v", e)
	}
	p.hold(t, p.all(), edges()...)
}

// TestTime: now is the greatest that it was advanced to, MaxTime at most.
func TestTime(t *testing.T) {
	for _, c := range []struct {
		to   []int
		want int
	}{
		{nil, 0}, {[]int{0}, 0}, {[]int{-1}, 0}, {[]int{math.MinInt}, 0},
		{[]int{1}, 1}, {[]int{1, 1}, 1}, {[]int{1, 2, 3}, 3}, {[]int{7}, 7}, {[]int{7, 6}, 7}, {[]int{7, 0}, 7}, {[]int{7, -7}, 7}, {[]int{7, math.MinInt}, 7}, {[]int{7, 3, 9, 8}, 9}, {[]int{7, 107}, 107}, {[]int{7, 106, 107, 108}, 108},
		{[]int{999999}, 999999}, {[]int{api.MaxTime}, 1000000}, {[]int{api.MaxTime + 1}, 1000000}, {[]int{math.MaxInt}, 1000000}, {[]int{1 << 32}, 1000000}, {[]int{1<<32 + 5}, 1000000}, {[]int{999999, api.MaxTime + 5}, 1000000}, {[]int{api.MaxTime, 5}, 1000000}, {[]int{api.MaxTime + 9, api.MaxTime - 1}, 1000000}, {[]int{math.MaxInt, math.MinInt}, 1000000},
	} {
		for _, probe := range []struct {
			t    int
			want api.Errno
		}{{c.want + 1, 152}, {c.want, 0}, {c.want - 99, 0}, {c.want - 100, 152}} {
			p := newPair()
			for _, now := range c.to {
				p.advance(t, now)
			}
			if got := p.s.Now(); got != c.want {
				t.Errorf("P15.2: advanced to %v: now %d, for %d", c.to, got, c.want)
			}
			if probe.t < 0 {
				probe.want = 152
			}
			if e := p.add(t, nth(0), at(probe.t, n(1))); e != probe.want {
				t.Errorf("P15.1: advanced to %v: %d: %v, for %v", c.to, probe.t, e, probe.want)
			}
		}
	}
}

// TestIsThere: a series is there while its last sample is one of MaxRange ticks, whatever its first one is.
func TestIsThere(t *testing.T) {
	for _, c := range []struct {
		samples []int
		now     int
		want    int
	}{
		{[]int{200}, math.MinInt, 1}, {[]int{200}, 0, 1}, {[]int{200}, 199, 1}, {[]int{200}, 200, 1}, {[]int{200}, 201, 1}, {[]int{200}, 298, 1}, {[]int{200}, 299, 1}, {[]int{200}, 300, 0}, {[]int{200}, 301, 0}, {[]int{200}, 400, 0}, {[]int{200}, api.MaxTime, 0}, {[]int{200}, math.MaxInt, 0},
		{[]int{0}, 99, 1}, {[]int{0}, 100, 0}, {[]int{1}, 100, 1}, {[]int{1}, 101, 0},
		{[]int{150, 200}, 250, 1}, {[]int{150, 200}, 299, 1}, {[]int{150, 200}, 300, 0}, {[]int{101, 102, 200}, 299, 1}, {[]int{101, 102, 200}, 300, 0}, {[]int{199, 200}, 299, 1}, {[]int{199, 200}, 300, 0},
		{[]int{api.MaxTime - 99}, math.MaxInt, 1}, {[]int{api.MaxTime - 100}, math.MaxInt, 0}, {[]int{api.MaxTime}, math.MaxInt, 1},
	} {
		samples := []api.Sample{}
		for _, x := range c.samples {
			samples = append(samples, at(x, n(int64(x))))
		}
		for _, l := range [][]api.Pair{nth(1), of(), of("__name__", "up")} {
			p := filled(t, c.now, l, samples...)
			what := fmt.Sprint(c.samples, " at ", c.now)
			if got := p.s.Len(); got != c.want {
				t.Errorf("P15.2: %s: %d series, for %d", what, got, c.want)
			}
			if got := len(p.s.Sets()); got != c.want {
				t.Errorf("P15.2: %s: %d sets, for %d", what, got, c.want)
			}
			if got := len(p.s.Window(l, 100)); got > 0 != (c.want > 0) {
				t.Errorf("P15.2: %s: %d samples of %d series", what, got, c.want)
			}
			p.hold(t, p.all(), edges()...)
		}
	}
}

// P15.1

func TestAddLabels(t *testing.T) {
	for _, l := range wrongSets() {
		p := newPair()
		p.advance(t, 20)
		p.must(t, of("a", "x"), at(18, n(1)))
		p.must(t, of("b", "x"), at(18, n(2)))
		for _, x := range []api.Sample{at(20, n(7)), at(0, over), at(21, n(7)), at(-1, n(7)), {}, at(18, strange()[0])} {
			if e := p.add(t, l, x); e != api.ErrLabel {
				t.Errorf("P15.1: %q: %v: %v", l, x, e)
			}
		}
		p.hold(t, append(p.all(), l), 1, 3, 100)
		if p.s.Len() != 2 {
			t.Errorf("P15.1: %q: %d series", l, p.s.Len())
		}
	}
	for _, l := range [][]api.Pair{
		nil, of(), of("a", "x"), of("_", "x"), of("A", "x"), of("__name__", "up"), of("__name__", "no metric's name"), of("a", strings.Repeat("x", 30)), of(strings.Repeat("a", 20), "x"), of("a9_", "\x00"), of("a", "\xff\""), of("a", " "), of("a", "\r"),
		of("B", "x", "a", "x"), of("A", "x", "_", "x", "a", "x"), of("a", "x", "b", "x", "c", "x", "d", "x", "e", "x", "f", "x", "g", "x", "h", "x"),
	} {
		p := newPair()
		p.advance(t, 20)
		p.must(t, l, at(18, n(1)), at(19, n(2)), at(20, n(4)))
		p.hold(t, [][]api.Pair{l, of("zz", "y")}, edges()...)
		if got := p.s.Sets(); len(got) != 1 || !slices.Equal(got[0], l) {
			t.Errorf("P15.1: %q: sets %q", l, got)
		}
	}
}

// TestSeriesApart: label sets that differ in anything are series of their own.
func TestSeriesApart(t *testing.T) {
	sets := [][]api.Pair{
		of(), of("a", "b"), of("b", "a"), of("a", "a"), of("b", "b"), of("a", "b", "b", "a"), of("a", "a", "b", "b"), of("A", "b"), of("a", "B"), of("a", "b "), of("a", `b"`), of("a", `b\"`), of("a", `b",b="a`), of("aa", "b"), of("a", "ab"), of("__name__", "a"),
	}
	p := newPair()
	p.advance(t, 50)
	for i, l := range sets {
		p.must(t, l, at(20+i, n(int64(i))), at(50, n(int64(-i))))
	}
	p.hold(t, sets, 1, 10, 100)
}

func TestAddTime(t *testing.T) {
	for _, c := range []struct {
		what  string
		now   int
		there []api.Sample // added when they were new
		t     int
		want  api.Errno
	}{
		{"above now", 220, nil, 221, 152}, {"far above now", 220, nil, math.MaxInt, 152}, {"above MaxTime", api.MaxTime, nil, api.MaxTime + 1, 152}, {"above what now was held at", api.MaxTime + 50, nil, api.MaxTime + 1, 152}, {"above now 0", 0, nil, 1, 152},
		{"at now", 220, nil, 220, 0}, {"at MaxTime", api.MaxTime + 50, nil, api.MaxTime, 0}, {"at now 0", 0, nil, 0, 0}, {"below now", 220, nil, 219, 0},
		{"at now less MaxRange", 220, nil, 120, 152}, {"below that", 220, nil, 119, 152}, {"far below that", 220, nil, 0, 152}, {"farthest", 220, nil, math.MinInt, 152}, {"one above it", 220, nil, 121, 0}, {"at MaxTime less MaxRange", api.MaxTime, nil, api.MaxTime - 100, 152}, {"one above that", api.MaxTime, nil, api.MaxTime - 99, 0},
		{"below 0", 0, nil, -1, 152}, {"below 0, in the window", 50, nil, -1, 152}, {"below 0, at now less MaxRange", 50, nil, -50, 152}, {"far below 0", 50, nil, math.MinInt, 152}, {"at 0, in the window", 99, nil, 0, 0}, {"at 0, at now less MaxRange", 100, nil, 0, 152}, {"at 0", 50, nil, 0, 0},
		// The series is there.
		{"at the last one", 220, ticked(200, 200), 200, 150}, {"below the last one", 220, ticked(200, 200), 199, 150}, {"below the last one, the least", 220, ticked(200, 200), 121, 150}, {"between two", 220, []api.Sample{at(190, n(1)), at(200, n(2))}, 195, 150}, {"at the first of two", 220, ticked(199, 200), 199, 150},
		{"above the last one", 220, ticked(200, 200), 201, 0}, {"far above the last one", 220, ticked(121, 121), 220, 0}, {"above the last one of many", 220, ticked(121, 219), 220, 0}, {"at the last one of many", 220, ticked(100, 220), 220, 150},
		{"at the last one, at 0", 0, ticked(0, 0), 0, 150}, {"at the last one, 0", 99, ticked(0, 0), 0, 150}, {"above the last one, 0", 99, ticked(0, 0), 1, 0}, {"at the last one, at MaxTime", api.MaxTime, ticked(api.MaxTime, api.MaxTime), api.MaxTime, 150},
		{"at the last one, that goes next", 299, ticked(200, 200), 200, 150}, {"above the last one, that goes next", 299, ticked(200, 200), 201, 0}, {"at the first, that is gone", 299, ticked(199, 200), 199, 152}, {"at the second, that isn't the last", 250, ticked(149, 200), 151, 150},
		// It isn't newer, and it is no time: that comes first.
		{"both, at now less MaxRange", 220, ticked(200, 200), 120, 152}, {"both, below 0", 50, ticked(1, 1), -1, 152}, {"both, far below", 220, ticked(220, 220), math.MinInt, 152}, {"newer, but above now", 220, ticked(220, 220), 221, 152}, {"newer, but above what now was held at", api.MaxTime + 5, ticked(api.MaxTime, api.MaxTime), api.MaxTime + 1, 152},
		// The series is gone.
		{"at one that is gone", 300, ticked(200, 200), 200, 152}, {"below one that is gone", 300, ticked(200, 200), 199, 152}, {"above one that is gone", 300, ticked(200, 200), 201, 0}, {"at now, above one that is gone", 300, ticked(200, 200), 300, 0}, {"above one that is gone, but out", 301, ticked(200, 200), 201, 152}, {"long behind it", 1000, ticked(150, 200), 901, 0}, {"long behind it, out", 1000, ticked(150, 200), 900, 152}, {"0, that is gone", 100, ticked(0, 0), 0, 152}, {"above 0, that is gone", 100, ticked(0, 0), 1, 0},
	} {
		p := filled(t, c.now, nth(1), c.there...)
		was := p.s.Window(nth(1), 100)
		e := p.add(t, nth(1), at(c.t, n(77)))
		if e != c.want {
			t.Errorf("P15.1: %s: %v, for %v", c.what, e, c.want)
		}
		if e == api.OK {
			was = append(was, at(c.t, n(77)))
		}
		if got := p.s.Window(nth(1), 100); !slices.Equal(got, was) {
			t.Errorf("P15.1: %s: %v, for %v", c.what, got, was)
		}
		p.hold(t, [][]api.Pair{nth(1), nth(2)}, edges()...)
	}
}

// TestOthersTimes: what isn't newer in one series is in another.
func TestOthersTimes(t *testing.T) {
	p := newPair()
	p.advance(t, 200)
	p.must(t, nth(1), at(150, n(1)), at(200, n(2)))
	p.must(t, nth(2), at(150, n(3)), at(151, n(4)))
	p.must(t, nth(0), at(101, n(5)), at(200, n(6)))
	p.must(t, nth(2), at(200, n(7)))
	p.hold(t, p.all(), edges()...)
}

// crowded: as many series as there may be, each with a sample at a time of its own, from 100 on.
func crowded(t testing.TB, now int) *pair {
	t.Helper()
	p := newPair()
	for i := range api.MaxSeries {
		p.advance(t, 100+i)
		p.must(t, nth(i), at(100+i, n(int64(i))))
	}
	p.advance(t, now)
	return p
}

func TestCap(t *testing.T) {
	p := newPair()
	p.advance(t, 5)
	for i := range 100 {
		e, want := p.add(t, nth(i), at(5, n(int64(i)))), api.OK
		if i >= 16 {
			want = api.ErrCap
		}
		if e != want || p.s.Len() != min(i+1, 16) {
			t.Errorf("P15.1: number %d: %v and %d series, for %v", i, e, p.s.Len(), want)
		}
	}
	p.hold(t, p.all(), 1, 100)
	// Those that are there take more, while there is no room for others.
	p.advance(t, 6)
	for i := range 16 {
		p.must(t, nth(i), at(6, n(7)))
		if e := p.add(t, nth(20), at(6, n(7))); e != api.ErrCap {
			t.Errorf("P15.1: another one: %v", e)
		}
	}
	p.hold(t, append(p.all(), nth(20)), 1, 100)
	// Those that came later stay, where one of them stands ahead of all.
	if e := p.add(t, of(), at(6, n(7))); e != api.ErrCap {
		t.Errorf("P15.1: the empty set: %v", e)
	}
	if e := p.add(t, of("zz", "x"), at(6, n(7))); e != api.ErrCap {
		t.Errorf("P15.1: behind all: %v", e)
	}
}

// TestCapWhileOnesGo: there is room for as many others as are gone.
func TestCapWhileOnesGo(t *testing.T) {
	for gone := range 17 {
		p := crowded(t, 199+gone)
		if p.s.Len() != 16-gone {
			t.Fatalf("P15.2: %d series, with %d gone", p.s.Len(), gone)
		}
		for i := range 17 {
			e, want := p.add(t, nth(50+i), at(199+gone, n(9))), api.OK
			if i >= gone {
				want = api.ErrCap
			}
			if e != want {
				t.Errorf("P15.1: %d gone, %d came: %v, for %v", gone, i, e, want)
			}
		}
		// One that is gone finds no room any more, and one that isn't needs none.
		for i := range 16 {
			e, want := p.add(t, nth(i), at(199+gone, n(9))), api.OK
			if i < gone {
				want = api.ErrCap
			}
			if e != want {
				t.Errorf("P15.1: %d gone, number %d again: %v, for %v", gone, i, e, want)
			}
		}
		p.hold(t, p.all(), 1, 10, 100)
	}
}

// TestWhichErrorFirst: of several errors the one that the chapter names first.
func TestWhichErrorFirst(t *testing.T) {
	for _, c := range []struct {
		what string
		l    []api.Pair
		t    int
		want api.Errno
	}{
		{"no set, no time, no room", of("9", "x"), 1000, 30}, {"no set, no time below", of("9", "x"), 10, 30}, {"no set, no room", of("9", "x"), 150, 30}, {"no set, like one that is there", of("a", "003", "a", "003"), 103, 30},
		{"no time, no room", nth(50), 151, 152}, {"no time below, no room", nth(50), 50, 152}, {"below 0, no room", nth(50), -1, 152}, {"no room", nth(50), 150, 151}, {"no room, the oldest", nth(50), 51, 151},
		{"no time, there", nth(3), 151, 152}, {"no time, not newer, there", nth(3), 50, 152}, {"not newer, there", nth(3), 103, 150}, {"not newer, there, the oldest", nth(3), 51, 150}, {"newer, there", nth(3), 104, 0},
	} {
		p := crowded(t, 150)
		if e := p.add(t, c.l, at(c.t, n(5))); e != c.want {
			t.Errorf("P15.1: %s: %v, for %v", c.what, e, c.want)
		}
	}
}

// TestRefusedChangesNothing: what is refused neither adds anything, nor is in anything's way.
func TestRefusedChangesNothing(t *testing.T) {
	for _, v := range append(strange(), over, n(top), n(5), n(-top)) {
		p := crowded(t, 150)
		p.must(t, nth(3), at(140, n(5)))
		was := p.copied()
		for _, l := range append(wrongSets(), of(), nth(3), nth(50)) {
			for _, bad := range []int{math.MinInt, -1, 0, 50, 51, 139, 140, 151, math.MaxInt} {
				if e := p.add(t, l, at(bad, v)); e == api.OK {
					t.Errorf("P15.1: %v at %d was taken", l, bad)
				}
			}
		}
		if !isSame(p.s.Sets(), was.s.Sets()) {
			t.Errorf("P15.1: %v, for %v", p.s.Sets(), was.s.Sets())
		}
		p.hold(t, append(p.all(), of(), nth(50)), 1, 11, 100)
		p.must(t, nth(3), at(141, n(5)), at(142, v), at(150, n(5)))
		p.advance(t, 200)
		p.must(t, nth(50), at(150, n(5)))
		p.hold(t, append(p.all(), of(), nth(50)), 1, 11, 100)
	}
}

// TestComesAgain: nothing of the past of a series that was gone is told.
func TestComesAgain(t *testing.T) {
	for _, now := range []int{300, 301, 399, 400, 10000, api.MaxTime} {
		for _, back := range []int{0, 1, 50, 99} {
			p := filled(t, now, nth(1), ticked(101, 200)...)
			if p.s.Len() != 0 {
				t.Fatalf("P15.2: at %d: %d series", now, p.s.Len())
			}
			p.must(t, nth(1), at(now-back, n(4)))
			if got := p.s.Window(nth(1), 100); !slices.Equal(got, []api.Sample{at(now-back, n(4))}) {
				t.Errorf("P15.1: again at %d: %v", now-back, got)
			}
			for name, least := range names() {
				if got, ok := p.s.Over(nth(1), name, 100); ok != (least == 1) || ok && name != "count" && got != n(4) {
					t.Errorf("P15.1: again at %d: %s: %v %v", now-back, name, got, ok)
				}
			}
			p.hold(t, p.all(), edges()...)
		}
	}
	// While it is there still, its past is.
	p := filled(t, 299, nth(1), ticked(101, 200)...)
	p.must(t, nth(1), at(299, n(4)))
	if got := p.s.Window(nth(1), 100); !slices.Equal(got, []api.Sample{ticked(200, 200)[0], at(299, n(4))}) {
		t.Errorf("P15.2: %v", got)
	}
}

// TestStrangeValues: what isn't fix's Is counts as Ovf, and is told as that.
func TestStrangeValues(t *testing.T) {
	for _, v := range append(strange(), over) {
		p := filled(t, 3, nth(1), at(1, n(5)), at(2, v), at(3, n(7)))
		if got := p.s.Window(nth(1), 100); !slices.Equal(got, []api.Sample{at(1, n(5)), at(2, over), at(3, n(7))}) {
			t.Errorf("P15.1: %v: %v", v, got)
		}
		p.hold(t, p.all(), edges()...)
		p = filled(t, 1, nth(1), at(1, v))
		if x, ok := p.s.Last(nth(1)); x != at(1, over) || !ok {
			t.Errorf("P15.1: %v: last %v %v", v, x, ok)
		}
		for _, name := range []string{"sum", "avg", "min", "max", "last"} {
			if got, ok := p.s.Over(nth(1), name, 1); got != over || !ok {
				t.Errorf("P15.1: %v: %s %v %v", v, name, got, ok)
			}
		}
	}
	for _, v := range []api.Num{n(top), n(-top), n(0), n(1), n(-1)} {
		p := filled(t, 1, nth(1), at(1, v))
		if x, ok := p.s.Last(nth(1)); x != at(1, v) || !ok {
			t.Errorf("P15.1: %v: last %v %v", v, x, ok)
		}
	}
}

// P15.2

func TestSets(t *testing.T) {
	up, down, bare, both := of("__name__", "up", "job", "a"), of("__name__", "down", "job", "a"), of("job", "b"), of("job", "b", "zone", "x")
	p := newPair()
	p.advance(t, 9)
	for _, l := range [][]api.Pair{both, up, of(), bare, down} {
		p.must(t, l, at(9, n(1)))
	}
	for _, c := range []struct {
		m    []api.Matcher
		want [][]api.Pair
	}{
		{nil, [][]api.Pair{of(), down, up, bare, both}}, {[]api.Matcher{}, [][]api.Pair{of(), down, up, bare, both}},
		{[]api.Matcher{match("job", api.MEq, "a")}, [][]api.Pair{down, up}}, {[]api.Matcher{match("job", api.MEq, "b")}, [][]api.Pair{bare, both}}, {[]api.Matcher{match("job", api.MEq, "c")}, nil}, {[]api.Matcher{match("job", api.MEq, "")}, [][]api.Pair{of()}},
		{[]api.Matcher{match("job", api.MNe, "a")}, [][]api.Pair{of(), bare, both}}, {[]api.Matcher{match("job", api.MNe, "")}, [][]api.Pair{down, up, bare, both}}, {[]api.Matcher{match("zone", api.MNe, "")}, [][]api.Pair{both}}, {[]api.Matcher{match("zone", api.MEq, "")}, [][]api.Pair{of(), down, up, bare}},
		{[]api.Matcher{match("__name__", api.MPrefix, "d")}, [][]api.Pair{down}}, {[]api.Matcher{match("__name__", api.MPrefix, "")}, [][]api.Pair{of(), down, up, bare, both}}, {[]api.Matcher{match("__name__", api.MGlob, "*")}, [][]api.Pair{of(), down, up, bare, both}}, {[]api.Matcher{match("__name__", api.MGlob, "?*")}, [][]api.Pair{down, up}}, {[]api.Matcher{match("__name__", api.MGlob, "u?")}, [][]api.Pair{up}}, {[]api.Matcher{match("__name__", api.MEq, "u?")}, nil},
		{[]api.Matcher{match("job", api.MEq, "b"), match("zone", api.MEq, "x")}, [][]api.Pair{both}}, {[]api.Matcher{match("job", api.MEq, "b"), match("zone", api.MNe, "x")}, [][]api.Pair{bare}}, {[]api.Matcher{match("job", api.MEq, "a"), match("job", api.MEq, "b")}, nil}, {[]api.Matcher{match("job", api.MNe, "a"), match("job", api.MNe, "b")}, [][]api.Pair{of()}}, {[]api.Matcher{match("job", api.MEq, "a"), match("job", api.MEq, "a"), match("__name__", api.MGlob, "*p")}, [][]api.Pair{up}},
		// Of other kinds none matches.
		{[]api.Matcher{{}}, nil}, {[]api.Matcher{match("job", 0, "a")}, nil}, {[]api.Matcher{match("job", 5, "a")}, nil}, {[]api.Matcher{match("job", -1, "a")}, nil}, {[]api.Matcher{match("job", math.MaxInt, "a"), match("job", api.MEq, "a")}, nil},
		// Of other names and texts, what pattern tells.
		{[]api.Matcher{match("", api.MEq, "")}, [][]api.Pair{of(), down, up, bare, both}}, {[]api.Matcher{match("9", api.MNe, "")}, nil}, {[]api.Matcher{match("job", api.MNe, strings.Repeat("a\n", 5000))}, [][]api.Pair{of(), down, up, bare, both}},
	} {
		for range 2 {
			if got := p.s.Sets(c.m...); !isSame(got, c.want) {
				t.Errorf("P15.2: %v: %q, for %q", c.m, got, c.want)
			}
		}
		p.holdSets(t, c.m...)
	}
	// One that is gone is of none, whatever it matches.
	p.advance(t, 50)
	p.must(t, up, at(50, n(1)))
	p.advance(t, 109)
	for _, m := range []api.Matcher{match("job", api.MEq, "a"), match("job", api.MNe, ""), match("zone", api.MEq, ""), match("__name__", api.MPrefix, "")} {
		if got := p.s.Sets(m); !isSame(got, [][]api.Pair{up}) {
			t.Errorf("P15.2: %v: %q", m, got)
		}
	}
	if got := p.s.Sets(match("job", api.MEq, "b")); len(got) != 0 {
		t.Errorf("P15.2: what is gone: %q", got)
	}
}

// TestSetsInOrder: whichever came first.
func TestSetsInOrder(t *testing.T) {
	sets := [][]api.Pair{
		of(), of("A", "x"), of("__name__", "B"), of("__name__", "a"), of("__name__", "a", "b", "x"), of("a", "0"), of("a", "1"), of("a", "1", "b", "0"), of("a", "1", "c", "0"), of("a", "10"), of("a", "9"), of("a", "9", "b", "x"), of("a0", "0"), of("aa", "0"), of("b", "\x01"), of("b", "\xff"),
	}
	r := rand.New(rand.NewSource(150))
	for range 200 {
		p := newPair()
		p.advance(t, 9)
		for _, i := range r.Perm(len(sets)) {
			p.must(t, sets[i], at(9, n(1)))
		}
		if got := p.s.Sets(); !isSame(got, sets) {
			t.Fatalf("P15.2: %s: %q", p.trail, got)
		}
	}
}

func TestLast(t *testing.T) {
	for _, c := range []struct {
		now  int
		want bool // of samples at 190 and 200
	}{
		{200, true}, {201, true}, {205, true}, {208, true}, {209, true}, {210, false}, {211, false}, {299, false}, {300, false}, {310, false}, {api.MaxTime, false},
	} {
		p := filled(t, c.now, nth(1), at(190, n(1)), at(200, n(2)))
		x, ok := p.s.Last(nth(1))
		if ok != c.want || ok && x != at(200, n(2)) || !ok && x != (api.Sample{}) {
			t.Errorf("P15.2: at %d: %v %v", c.now, x, ok)
		}
	}
	// At 0; of one that came late; of one that never was.
	p := filled(t, 9, nth(1), at(0, n(3)))
	if x, ok := p.s.Last(nth(1)); x != at(0, n(3)) || !ok {
		t.Errorf("P15.2: 0 at 9: %v %v", x, ok)
	}
	p.advance(t, 10)
	if x, ok := p.s.Last(nth(1)); x != (api.Sample{}) || ok {
		t.Errorf("P15.2: 0 at 10: %v %v", x, ok)
	}
	p.must(t, nth(2), at(0, n(3)))
	p.must(t, nth(3), at(0, n(3)), at(1, over))
	for l, want := range map[string]api.Sample{"002": {}, "003": at(1, over), "004": {}} {
		if x, ok := p.s.Last(of("a", l)); x != want || ok != (want.T > 0) {
			t.Errorf("P15.2: %s at 10: %v %v", l, x, ok)
		}
	}
	for _, l := range append(wrongSets(), nil, of("a", "001", "b", "x"), of("A", "001")) {
		if x, ok := p.s.Last(l); x != (api.Sample{}) || ok {
			t.Errorf("P15.2: %q: %v %v", l, x, ok)
		}
	}
}

func TestWindow(t *testing.T) {
	for d, want := range map[int]int{
		math.MinInt: 1, math.MinInt32: 1, -100: 1, -1: 1, 0: 1, 1: 1, 2: 2, 3: 3, 10: 10, 50: 50, 99: 99,
		100: 100, 101: 100, 128: 100, 1000: 100, 1 << 32: 100, 1<<32 + 5: 100, math.MaxInt: 100,
	} {
		p := filled(t, 300, nth(1), ticked(150, 300)...)
		if got := p.s.Window(nth(1), d); !slices.Equal(got, ticked(301-want, 300)) {
			t.Errorf("P15.2: %d ticks: %v", d, got)
		}
		// As time goes on without new ones they go one by one.
		for later := 1; later <= 101; later++ {
			p.advance(t, 300+later)
			if got := p.s.Window(nth(1), d); !slices.Equal(got, ticked(301+later-want, 300)) {
				t.Errorf("P15.2: %d ticks, %d later: %v", d, later, got)
			}
		}
	}
	// With gaps; of one that is gone; of one that never was.
	gaps := []api.Sample{at(200, n(1)), at(205, n(2)), at(299, n(3))}
	for d, want := range map[int]int{-1: 0, 1: 0, 2: 1, 94: 1, 95: 1, 96: 2, 97: 2, 100: 2, 101: 2} {
		p := filled(t, 300, nth(1), gaps...)
		if got := p.s.Window(nth(1), d); !slices.Equal(got, gaps[3-want:]) {
			t.Errorf("P15.2: %d ticks with gaps: %v", d, got)
		}
		p.hold(t, append(wrongSets(), nth(1), nth(2), of()), d)
		p.advance(t, 399)
		p.hold(t, append(wrongSets(), nth(1), nth(2), of()), d)
	}
}

// byHand: what a name tells of these values, one at each tick, in a window of that many ticks.
type byHand struct {
	values []api.Num
	d      int
	want   map[string]api.Num
}

func TestOver(t *testing.T) {
	for _, c := range []byHand{
		{nil, 5, nil}, {nil, 100, nil},
		{[]api.Num{n(5)}, 5, map[string]api.Num{"sum": n(5), "avg": n(5), "min": n(5), "max": n(5), "count": n(1000000), "last": n(5)}},
		{[]api.Num{over}, 5, map[string]api.Num{"sum": over, "avg": over, "min": over, "max": over, "count": n(1000000), "last": over}},
		{[]api.Num{n(0)}, 1, map[string]api.Num{"sum": n(0), "avg": n(0), "min": n(0), "max": n(0), "count": n(1000000), "last": n(0)}},
		{[]api.Num{n(5), n(8)}, 2, map[string]api.Num{"sum": n(13), "avg": n(6), "min": n(5), "max": n(8), "count": n(2000000), "last": n(8), "increase": n(3), "rate": n(1), "delta": n(3)}},
		{[]api.Num{n(8), n(5)}, 2, map[string]api.Num{"sum": n(13), "avg": n(6), "min": n(5), "max": n(8), "count": n(2000000), "last": n(5), "increase": n(5), "rate": n(2), "delta": n(-3)}},
		{[]api.Num{n(-8), n(-5)}, 3, map[string]api.Num{"sum": n(-13), "avg": n(-6), "min": n(-8), "max": n(-5), "count": n(2000000), "last": n(-5), "increase": n(3), "rate": n(1), "delta": n(3)}},
		{[]api.Num{n(-5), n(-8)}, 3, map[string]api.Num{"sum": n(-13), "avg": n(-6), "min": n(-8), "max": n(-5), "count": n(2000000), "last": n(-8), "increase": n(-8), "rate": n(-2), "delta": n(-3)}},
		{[]api.Num{n(5), n(7), n(1), n(4)}, 4, map[string]api.Num{"sum": n(17), "avg": n(4), "min": n(1), "max": n(7), "count": n(4000000), "last": n(4), "increase": n(6), "rate": n(1), "delta": n(-1)}},
		{[]api.Num{n(5), n(7), n(1), n(4)}, 3, map[string]api.Num{"sum": n(12), "avg": n(4), "min": n(1), "max": n(7), "count": n(3000000), "last": n(4), "increase": n(4), "rate": n(1), "delta": n(-3)}},
		{[]api.Num{n(5), n(7), n(1), n(4)}, 1, map[string]api.Num{"sum": n(4), "avg": n(4), "min": n(4), "max": n(4), "count": n(1000000), "last": n(4)}},
		{[]api.Num{n(7), n(7)}, 50, map[string]api.Num{"sum": n(14), "avg": n(7), "min": n(7), "max": n(7), "count": n(2000000), "last": n(7), "increase": n(0), "rate": n(0), "delta": n(0)}},
		{[]api.Num{over, n(2)}, 9, map[string]api.Num{"sum": over, "avg": over, "min": n(2), "max": over, "count": n(2000000), "last": n(2), "increase": n(2), "rate": n(0), "delta": over}},
		{[]api.Num{n(2), over}, 9, map[string]api.Num{"sum": over, "avg": over, "min": n(2), "max": over, "count": n(2000000), "last": over, "increase": over, "rate": over, "delta": over}},
		{[]api.Num{n(2), over, n(6)}, 9, map[string]api.Num{"sum": over, "avg": over, "min": n(2), "max": over, "count": n(3000000), "last": n(6), "increase": over, "rate": over, "delta": n(4)}},
		{[]api.Num{n(2), over, n(6)}, 2, map[string]api.Num{"sum": over, "avg": over, "min": n(6), "max": over, "count": n(2000000), "last": n(6), "increase": n(6), "rate": n(3), "delta": over}},
		{[]api.Num{n(2), over, n(6)}, 1, map[string]api.Num{"sum": n(6), "avg": n(6), "min": n(6), "max": n(6), "count": n(1000000), "last": n(6)}},
		{[]api.Num{n(top), n(top)}, 2, map[string]api.Num{"sum": over, "avg": over, "min": n(top), "max": n(top), "count": n(2000000), "last": n(top), "increase": n(0), "rate": n(0), "delta": n(0)}},
		{[]api.Num{n(-top), n(top)}, 2, map[string]api.Num{"sum": n(0), "avg": n(0), "min": n(-top), "max": n(top), "count": n(2000000), "last": n(top), "increase": over, "rate": over, "delta": over}},
		{[]api.Num{n(top), n(top), n(-top)}, 3, map[string]api.Num{"sum": n(top), "avg": n(top / 3), "min": n(-top), "max": n(top), "count": n(3000000), "last": n(-top), "increase": n(-top), "rate": n(-top / 3), "delta": over}},
	} {
		p := valued(t, nth(1), c.values...)
		for name := range names() {
			want, isTold := c.want[name]
			for range 2 {
				if got, ok := p.s.Over(nth(1), name, c.d); got != want || ok != isTold {
					t.Errorf("P15.2: %s over %d ticks of %v: %v %v, for %v %v", name, c.d, c.values, got, ok, want, isTold)
				}
			}
		}
		for _, name := range noNames() {
			if got, ok := p.s.Over(nth(1), name, c.d); got != (api.Num{}) || ok {
				t.Errorf("P15.2: %q over %d ticks of %v: %v %v", name, c.d, c.values, got, ok)
			}
		}
		p.hold(t, p.all(), edges()...)
	}
}

// TestOverOfNone: of a series that is gone, of one that never was, and of one whose samples are all older.
func TestOverOfNone(t *testing.T) {
	p := filled(t, 299, nth(1), ticked(101, 200)...)
	p.must(t, nth(2), at(200, n(3)), at(201, n(4)))
	p.advance(t, 300)
	for _, l := range append(wrongSets(), nth(1), nth(3), nil) {
		for _, d := range edges() {
			for name := range names() {
				if got, ok := p.s.Over(l, name, d); got != (api.Num{}) || ok {
					t.Errorf("P15.2: %s over %d ticks of %q: %v %v", name, d, l, got, ok)
				}
			}
		}
	}
	for _, d := range []int{math.MinInt, 0, 1, 10, 98, 99} {
		for name := range names() {
			if got, ok := p.s.Over(nth(2), name, d); got != (api.Num{}) || ok {
				t.Errorf("P15.2: %s over %d ticks of older ones: %v %v", name, d, got, ok)
			}
		}
	}
	if got, ok := p.s.Over(nth(2), "sum", 100); got != n(4) || !ok {
		t.Errorf("P15.2: sum of the one left: %v %v", got, ok)
	}
}

// TestRate: by the ticks as they are held, whatever is there of them.
func TestRate(t *testing.T) {
	for d, want := range map[int]int64{2: 500, 3: 333, 7: 142, 10: 100, 99: 10, 100: 10, 101: 10, 1000: 10, 1<<32 + 2: 10, math.MaxInt: 10} {
		p := filled(t, 100, nth(1), at(99, n(1)), at(100, n(1001)))
		if got, ok := p.s.Over(nth(1), "rate", d); got != n(want) || !ok {
			t.Errorf("P15.2: over %d ticks: %v %v, for %d", d, got, ok, want)
		}
		if got, ok := p.s.Over(nth(1), "increase", d); got != n(1000) || !ok {
			t.Errorf("P15.2: over %d ticks: %v %v", d, got, ok)
		}
	}
	for _, d := range []int{math.MinInt, -2, -1, 0, 1} {
		p := filled(t, 100, nth(1), at(99, n(1)), at(100, n(1001)))
		if got, ok := p.s.Over(nth(1), "rate", d); got != n(0) || ok {
			t.Errorf("P15.2: over %d ticks: %v %v", d, got, ok)
		}
	}
	// Cut off towards nought.
	for _, c := range []struct {
		first, last int64
		d           int
		want        int64
	}{{0, 99, 100, 0}, {0, 100, 100, 1}, {0, 199, 100, 1}, {-1, -99, 100, 0}, {-1, -100, 100, -1}, {-1, -199, 100, -1}, {0, 5, 3, 1}, {-1, -5, 3, -1}} {
		p := filled(t, 1, nth(1), at(0, n(c.first)), at(1, n(c.last)))
		if got, ok := p.s.Over(nth(1), "rate", c.d); got != n(c.want) || !ok {
			t.Errorf("P15.2: from %d to %d over %d ticks: %v %v, for %d", c.first, c.last, c.d, got, ok, c.want)
		}
	}
}

// TestOverflowGoes: an Ovf plays no part any more, once it isn't in the window.
func TestOverflowGoes(t *testing.T) {
	p := filled(t, 3, nth(1), at(1, n(9)), at(2, over), at(3, n(4)))
	for now := 3; now <= 110; now++ {
		p.advance(t, now)
		for _, d := range []int{1, 2, 3, 50, 99, 100} {
			p.holdPast(t, nth(1), d)
		}
	}
	p = filled(t, 101, nth(1), at(1, over), at(2, n(5)), at(3, n(4)))
	for name, want := range map[string]int64{"sum": 9, "avg": 4, "min": 4, "max": 5, "last": 4, "increase": 4, "rate": 0, "delta": -1} {
		if got, ok := p.s.Over(nth(1), name, 100); got != n(want) || !ok {
			t.Errorf("P15.2: %s with an Ovf gone: %v %v, for %d", name, got, ok, want)
		}
	}
}

// TestLen: as series come and go.
func TestLen(t *testing.T) {
	p := newPair()
	for i := range 16 {
		p.advance(t, 10*i)
		p.must(t, nth(i), at(10*i, n(1)))
		// The oldest goes 100 ticks behind its sample.
		if want := min(i+1, 10); p.s.Len() != want {
			t.Errorf("P15.2: at %d: %d series, for %d", 10*i, p.s.Len(), want)
		}
	}
	for now := 150; now < 260; now++ {
		p.advance(t, now)
		want := 0
		for i := range 16 {
			if 10*i > now-100 {
				want++
			}
		}
		if p.s.Len() != want {
			t.Errorf("P15.2: at %d: %d series, for %d", now, p.s.Len(), want)
		}
	}
	// Another sample keeps a series longer; many series go at once.
	p = crowded(t, 190)
	p.must(t, nth(0), at(190, n(1)))
	for now, want := range map[int]int{200: 16, 201: 15, 202: 14, 214: 2, 215: 1, 289: 1, 290: 0} {
		c := p.copied()
		c.advance(t, now)
		if c.s.Len() != want {
			t.Errorf("P15.2: at %d: %d series, for %d", now, c.s.Len(), want)
		}
	}
}

// TestCopy: neither hears of what the other is told.
func TestCopy(t *testing.T) {
	sets := [][]api.Pair{}
	for i := range 20 {
		sets = append(sets, nth(i))
	}
	tell := []func(p *pair){
		func(p *pair) {},
		func(p *pair) { p.advance(t, 190) },
		func(p *pair) { p.advance(t, 205) },
		func(p *pair) { p.advance(t, 5000) },
		func(p *pair) { p.must(t, nth(3), at(116, n(70)), at(150, over)) },
		func(p *pair) { p.must(t, nth(15), at(116, n(71))) },
		func(p *pair) { p.advance(t, 201); p.must(t, nth(17), at(201, n(72))) },
		func(p *pair) { p.advance(t, 300); p.must(t, nth(3), at(300, n(73))); p.must(t, of(), at(299, n(74))) },
	}
	for first, others := range [][]int{{1, 2}, {0, 2}, {0, 1}} {
		for _, second := range others {
			for j := range tell {
				for k := range tell {
					l := []*pair{crowded(t, 150)}
					l = append(l, l[0].copied())
					l = append(l, l[1].copied())
					tell[j](l[first])
					tell[k](l[second])
					for _, p := range l {
						p.holdCounts(t)
						p.holdSets(t)
						for _, l := range sets[2:19] {
							p.holdPast(t, l, 100)
						}
					}
				}
			}
		}
	}
	// Of an empty one, and of one in which all are gone.
	for _, p := range []*pair{newPair(), filled(t, 300, nth(1), at(200, n(1))), filled(t, math.MaxInt, nth(1), at(200, n(1)))} {
		c := p.copied()
		c.hold(t, sets, edges()...)
		c.must(t, nth(2), at(c.m.now, n(1)))
		c.hold(t, sets, edges()...)
		p.hold(t, sets, edges()...)
	}
}

// P15.3

// TestBounds: whatever comes, no more is there, and no more is kept.
func TestBounds(t *testing.T) {
	s := New()
	kept := func() int64 {
		runtime.GC()
		m := runtime.MemStats{}
		runtime.ReadMemStats(&m)
		return int64(m.HeapAlloc)
	}
	was := kept()
	for now := range 6000 {
		s.Advance(now)
		// Old ones, new ones, and such as have no room.
		for i := range 20 {
			s.Add(nth((now/130*7+i*13)%900), at(now, n(int64(now))))
		}
		if s.Len() > 16 || len(s.Sets()) != s.Len() {
			t.Fatalf("P15.3: at %d: %d series, %d sets", now, s.Len(), len(s.Sets()))
		}
		if now%50 > 0 {
			continue
		}
		samples := 0
		for _, l := range s.Sets() {
			if k := len(s.Window(l, math.MaxInt)); k > 100 {
				t.Fatalf("P15.3: at %d: %d samples of one series", now, k)
			} else {
				samples += k
			}
		}
		if samples > 1600 {
			t.Fatalf("P15.3: at %d: %d samples", now, samples)
		}
	}
	// By far less than as many as came, and by some more than as many as there may be.
	if much := kept() - was; much > 400000 {
		t.Errorf("P15.3: %d bytes are kept of at most 1600 samples", much)
	}
	runtime.KeepAlive(s)
}

// TestFull: the bounds are reached: as many series, each with as many samples as there are ticks.
func TestFull(t *testing.T) {
	p := newPair()
	for now := range 130 {
		p.advance(t, now)
		for i := range 17 {
			e, want := p.add(t, nth(i), at(now, n(int64(now*i)))), api.OK
			if i == 16 {
				want = api.ErrCap
			}
			if e != want {
				t.Fatalf("P15.3: at %d: number %d: %v", now, i, e)
			}
		}
	}
	for i := range 16 {
		if got := len(p.s.Window(nth(i), 100)); got != 100 {
			t.Errorf("P15.3: number %d: %d samples", i, got)
		}
	}
	p.hold(t, p.all(), edges()...)
}

// TestLongPast: far more samples than are ever there.
func TestLongPast(t *testing.T) {
	s, up := New(), nth(1)
	for now := range 200001 {
		s.Advance(now)
		if e := s.Add(up, at(now, n(int64(now%250)*3))); e != api.OK {
			t.Fatalf("P15.1: %d: %v", now, e)
		}
		if now < 250 || now%37 != 0 {
			continue
		}
		want := int64(297)
		if now%250 < 99 {
			want = 294
		}
		if got, ok := s.Over(up, "increase", 100); got != n(want) || !ok {
			t.Fatalf("P15.2: at %d: %v %v, for %d", now, got, ok, want)
		}
		if got, ok := s.Over(up, "count", 1000); got != n(100000000) || !ok {
			t.Fatalf("P15.2: at %d: %v %v", now, got, ok)
		}
	}
}

// Against the model.

// TestAllShortPasts: each row of a few calls.
func TestAllShortPasts(t *testing.T) {
	sets := [][]api.Pair{of("a", "x"), of()}
	calls := []func(p *pair){}
	for _, step := range []int{-1, 1, 9, 10, 99, 100} {
		calls = append(calls, func(p *pair) { p.advance(t, p.m.now+step) })
	}
	for _, back := range []int{-1, 0, 1, 99, 100} {
		calls = append(calls, func(p *pair) { p.add(t, sets[0], at(p.m.now-back, n(int64(p.m.now%7)))) })
	}
	calls = append(calls, func(p *pair) { p.add(t, sets[1], at(p.m.now, over)) }, func(p *pair) { *p = *p.copied() })
	const long = 4
	pasts := 1
	for range long {
		pasts *= len(calls)
	}
	for past := range pasts {
		p := newPair()
		for range long {
			calls[past%len(calls)](p)
			past /= len(calls)
		}
		p.holdSets(t)
		p.holdPast(t, sets[0], 1)
		p.holdPast(t, sets[0], 100)
		p.holdPast(t, sets[1], 11)
	}
}

func TestRandomPasts(t *testing.T) {
	r := rand.New(rand.NewSource(151))
	for range 120 {
		p := newPair()
		many, far := 1+r.Intn(9), 1+r.Intn(60)
		if r.Intn(5) == 0 {
			p.advance(t, api.MaxTime-r.Intn(400))
		}
		for range 300 {
			switch what := r.Intn(20); {
			case what < 4:
				p.advance(t, p.m.now+r.Intn(far)-far/4)
			case what == 4 && r.Intn(10) == 0:
				p.advance(t, p.m.now+100)
			case what == 5 && r.Intn(10) == 0:
				p = p.copied()
			default:
				p.add(t, anySet(r, many), at(p.m.now-r.Intn(1+r.Intn(far))+r.Intn(2), value(r)))
			}
			p.holdPast(t, anySet(r, many), r.Intn(120)-5)
			p.holdSets(t, anyMatchers(r)...)
		}
		p.hold(t, p.all(), 1, 10, 37, 100)
	}
}

func anyMatchers(r *rand.Rand) []api.Matcher {
	l := []api.Matcher{}
	for range r.Intn(3) {
		name := []string{"a", "b", "c", "__name__", ""}[r.Intn(5)]
		text := []string{"", "x", "y", "xy", "1", "*", "?", "?y", "*y*"}[r.Intn(9)]
		l = append(l, match(name, r.Intn(6), text))
	}
	return l
}

// What stands for each call.

// TestHandedInStays: neither labels nor matchers nor the spare room behind them are changed or kept.
func TestHandedInStays(t *testing.T) {
	room := of("a", "x", "b", "y", "c", "z", "d", "w")
	l := room[1:3]
	was := slices.Clone(room)
	rule := []api.Matcher{match("b", api.MEq, "y"), match("c", api.MNe, ""), match("d", api.MEq, "w")}
	asked := rule[:2]
	wasAsked := slices.Clone(rule)
	p := newPair()
	p.advance(t, 9)
	for i, x := range []api.Sample{at(8, n(5)), at(8, n(6)), at(9, n(7)), at(10, n(8))} {
		if e, want := p.s.Add(l, x), p.m.add(slices.Clone(l), x); e != want {
			t.Errorf("P15.1: number %d: %v, for %v", i, e, want)
		}
		if got := p.s.Sets(asked...); !isSame(got, [][]api.Pair{of("b", "y", "c", "z")}) {
			t.Errorf("P15.2: %q", got)
		}
		p.s.Last(l)
		p.s.Window(l, 5)
		p.s.Over(l, "sum", 5)
		p.s.Copy().Add(l, at(9, n(3)))
		if !slices.Equal(room, was) || !slices.Equal(rule, wasAsked) {
			t.Fatalf("P15.1: number %d: left %q and %v", i, room, rule)
		}
	}
	// What is done with the list afterwards is done to nothing that is told, in a copy neither.
	c := p.copied()
	for i := range room {
		room[i] = api.Pair{Name: "q", Value: "q"}
	}
	for _, p := range []*pair{p, c} {
		p.hold(t, [][]api.Pair{of("b", "y", "c", "z"), l}, 1, 5)
		p.holdSets(t, match("b", api.MEq, "y"))
	}
}

// TestAnswersAreNew: what is done with an answer and the room behind it is done to no other one, nor to the store.
func TestAnswersAreNew(t *testing.T) {
	p := newPair()
	p.advance(t, 50)
	sets := [][]api.Pair{of("a", "x"), of("a", "x", "b", "y"), of("b", "y")}
	for _, l := range sets {
		p.must(t, l, ticked(20, 50)...)
	}
	earlier, c := p.s.Sets(), p.copied()
	window := p.s.Window(sets[0], 40)
	spoil := func(s *Store) {
		for _, got := range [][][]api.Pair{s.Sets(), s.Sets(match("a", api.MEq, "x"))} {
			spoilSets(got)
		}
		for _, d := range []int{1, 10, 31, 100} {
			got := s.Window(sets[0], d)
			got = got[:cap(got)]
			for i := range got {
				got[i] = at(-7, n(-7))
			}
		}
	}
	for _, s := range []*Store{p.s, c.s, p.s.Copy()} {
		spoil(s)
		for _, p := range []*pair{p, c} {
			p.hold(t, sets, 1, 10, 100)
			p.holdSets(t, match("a", api.MEq, "x"))
		}
		if !isSame(earlier, sets) || !slices.Equal(window, ticked(20, 50)) {
			t.Fatalf("P15.2: what was told before is %q and %v", earlier, window)
		}
	}
	// No two lists of one answer share any memory.
	got := p.s.Sets()
	for i, l := range got {
		l = l[:cap(l)]
		for j := range l {
			l[j] = api.Pair{Name: "q", Value: "q"}
		}
		if !isSame(got[i+1:], sets[i+1:]) {
			t.Fatalf("P15.2: %q, with %d spoilt", got, i+1)
		}
	}
}

func spoilSets(got [][]api.Pair) {
	got = got[:cap(got)]
	for i, l := range got {
		l = l[:cap(l)]
		for j := range l {
			l[j] = api.Pair{Name: "q", Value: "q"}
		}
		got[i] = nil
	}
}

// TestAlone: what one is told the others don't hear of.
func TestAlone(t *testing.T) {
	r := rand.New(rand.NewSource(152))
	l := []*pair{newPair(), newPair(), newPair()}
	for range 1000 {
		p := l[r.Intn(len(l))]
		if r.Intn(4) == 0 {
			p.advance(t, p.m.now+r.Intn(20))
		} else {
			p.add(t, anySet(r, 3), at(p.m.now-r.Intn(3), value(r)))
		}
		for _, other := range l {
			other.holdSets(t)
			other.holdPast(t, anySet(r, 3), 100)
		}
	}
}

func FuzzSeries(f *testing.F) {
	f.Add([]byte{3, 1, 8, 150, 2, 7, 200, 9, 255, 130, 3, 4})
	f.Add([]byte{0, 1, 0, 101, 130, 60, 77, 254, 12, 3, 103, 9})
	f.Add([]byte{255, 255, 128, 0, 2, 1, 100, 100, 100})
	f.Fuzz(func(t *testing.T, calls []byte) {
		p := newPair()
		for i := 0; i+2 < len(calls) && i < 400; i += 3 {
			r := rand.New(rand.NewSource(int64(calls[i+1])))
			l, much := anySet(r, 8), int(calls[i+2])
			switch what := int(calls[i]); {
			case what < 80:
				p.advance(t, p.m.now+much/4-5)
			case what == 80:
				p.advance(t, api.MaxTime+much-128)
			case what < 84:
				p = p.copied()
			case what < 240:
				p.add(t, l, at(p.m.now-what%8+1, n(int64(much)/16-8)))
			default:
				p.add(t, l, at(p.m.now-what%3, value(r)))
			}
			p.holdPast(t, l, much-20)
			p.holdSets(t, anyMatchers(r)...)
		}
		p.hold(t, p.all(), 1, 10, 100)
	})
}
