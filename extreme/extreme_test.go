package extreme

import (
	"fmt"
	"math"
	"math/rand"
	"slices"
	"testing"

	"spillway/api"
)

// told: by hand, of a least and of a greatest.
type told struct {
	value api.Num
	kept  int
}

// toldBy: what x tells.
func toldBy(x *Extreme) told {
	v, _ := x.Get()
	return told{v, x.Kept()}
}

// is: what x tells, where it tells something.
func is(t testing.TB, what string, x *Extreme, want told) {
	t.Helper()
	if _, ok := x.Get(); !ok || toldBy(x) != want {
		t.Errorf("P13.1: %s: %v %v, for %v", what, toldBy(x), ok, want)
	}
}

// isNone: x tells nothing.
func isNone(t testing.TB, what string, x *Extreme) {
	t.Helper()
	if _, ok := x.Get(); ok || toldBy(x) != (told{}) {
		t.Errorf("P13.1: %s: %v %v, for none", what, toldBy(x), ok)
	}
}

func (b *both) are(t testing.TB, what string, low, high told) {
	t.Helper()
	is(t, "least: "+what, b.low, low)
	is(t, "greatest: "+what, b.high, high)
}

func (b *both) areNone(t testing.TB, what string) {
	t.Helper()
	isNone(t, "least: "+what, b.low)
	isNone(t, "greatest: "+what, b.high)
}

// ticked: rising samples from one time to another, one at each tick.
func ticked(from, to int) []api.Sample {
	out := []api.Sample{}
	for t := from; t <= to; t++ {
		out = append(out, at(t, n(int64(t)*7-300)))
	}
	return out
}

// P13.1: as ring's

func TestExample(t *testing.T) {
	b := valued(t, n(3000000), n(1000000), n(2000000))
	b.are(t, "3, 1, 2", told{n(1000000), 2}, told{n(3000000), 2})
}

func TestNew(t *testing.T) {
	for _, window := range []int{math.MinInt, -1, 0, 1, 5, api.MaxRange, math.MaxInt} {
		what := fmt.Sprint("window ", window)
		b := bothOf(window)
		b.areNone(t, what)
		// Now is 0.
		if e := b.add(t, at(1, n(1))); e != api.ErrTime {
			t.Errorf("P13.1: %s: 1 at 0: %v", what, e)
		}
		b.areNone(t, what)
		if e := b.add(t, at(0, n(1))); e != api.OK {
			t.Errorf("P13.1: %s: 0 at 0: %v", what, e)
		}
		b.are(t, what, told{n(1), 1}, told{n(1), 1})
	}
}

// TestWidth: of all ticks up to now as many are taken as the window is wide, and so many are there.
func TestWidth(t *testing.T) {
	for window, want := range map[int]int{
		math.MinInt: 1, math.MinInt32: 1, -100: 1, -1: 1, 0: 1, 1: 1, 2: 2, 3: 3, 50: 50, 99: 99,
		100: 100, 101: 100, 128: 100, 1000: 100, 1 << 32: 100, 1<<32 + 5: 100, math.MaxInt: 100,
	} {
		b := bothOf(window)
		b.advance(t, 1000)
		for _, s := range ticked(0, 1001) {
			e := b.add(t, s)
			if isIn := s.T > 1000-want && s.T <= 1000; isIn != (e == api.OK) || !isIn && e != api.ErrTime {
				t.Fatalf("P13.1: window %d: %d at 1000: %v", window, s.T, e)
			}
		}
		// Rising ones all stay for the least; one by one they go.
		for gone := range want {
			b.advance(t, 1000+gone)
			first, last := ticked(1001-want+gone, 1000)[0].V, ticked(1000, 1000)[0].V
			b.are(t, fmt.Sprint("window ", window, " to ", 1000+gone), told{first, want - gone}, told{last, 1})
		}
		b.advance(t, 1000+want)
		b.areNone(t, fmt.Sprint("window ", window, ", all gone"))
	}
}

// TestTime: now is the greatest that it was advanced to, MaxTime at most.
func TestTime(t *testing.T) {
	for _, c := range []struct {
		to   []int
		want int
	}{
		{nil, 0}, {[]int{0}, 0}, {[]int{-1}, 0}, {[]int{math.MinInt}, 0},
		{[]int{1}, 1}, {[]int{1, 1}, 1}, {[]int{1, 2, 3}, 3}, {[]int{7}, 7}, {[]int{7, 6}, 7}, {[]int{7, 0}, 7}, {[]int{7, -7}, 7}, {[]int{7, math.MinInt}, 7}, {[]int{7, 3, 9, 8}, 9},
		{[]int{999999}, 999999}, {[]int{api.MaxTime}, 1000000}, {[]int{api.MaxTime + 1}, 1000000}, {[]int{math.MaxInt}, 1000000}, {[]int{1 << 32}, 1000000}, {[]int{999999, api.MaxTime + 5}, 1000000}, {[]int{api.MaxTime, 5}, 1000000}, {[]int{api.MaxTime + 9, api.MaxTime - 1}, 1000000}, {[]int{math.MaxInt, math.MinInt}, 1000000},
	} {
		for _, probe := range []struct {
			t    int
			want api.Errno
		}{{c.want + 1, 152}, {c.want, 0}, {c.want - 4, 0}, {c.want - 5, 152}} {
			if probe.t < 0 {
				continue
			}
			b := bothOf(5)
			for _, now := range c.to {
				b.advance(t, now)
			}
			if e := b.add(t, at(probe.t, n(1))); e != probe.want {
				t.Errorf("P13.1: advanced to %v: %d: %v, for %v", c.to, probe.t, e, probe.want)
			}
		}
	}
}

// TestAdvanceForgets: what is at most now less the window is gone, and nothing else.
func TestAdvanceForgets(t *testing.T) {
	for _, c := range []struct {
		now, left int // of 21 to 25 in a window of 5
	}{
		{math.MinInt, 5}, {-1, 5}, {0, 5}, {20, 5}, {24, 5}, {25, 5},
		{26, 4}, {27, 3}, {28, 2}, {29, 1}, {30, 0}, {31, 0}, {35, 0},
		{500, 0}, {api.MaxTime - 1, 0}, {api.MaxTime, 0}, {api.MaxTime + 1, 0}, {math.MaxInt, 0},
	} {
		what := fmt.Sprint("to ", c.now)
		rising := filled(t, 5, 25, at(21, n(1)), at(22, n(2)), at(23, n(3)), at(24, n(4)), at(25, n(5)))
		falling := filled(t, 5, 25, at(21, n(5)), at(22, n(4)), at(23, n(3)), at(24, n(2)), at(25, n(1)))
		rising.advance(t, c.now)
		falling.advance(t, c.now)
		if c.left == 0 {
			rising.areNone(t, what)
			falling.areNone(t, what)
			continue
		}
		rising.are(t, what, told{n(int64(6 - c.left)), c.left}, told{n(5), 1})
		falling.are(t, what, told{n(1), 1}, told{n(int64(c.left)), c.left})
	}
	// Between them there may be gaps.
	for now, want := range map[int]told{29: {n(1), 3}, 30: {n(2), 2}, 32: {n(2), 2}, 33: {n(3), 1}, 38: {n(3), 1}} {
		b := filled(t, 10, now, at(20, n(1)), at(23, n(2)), at(29, n(3)))
		b.are(t, fmt.Sprint("gaps at ", now), want, told{n(3), 1})
	}
	filled(t, 10, 39, at(20, n(1)), at(23, n(2)), at(29, n(3))).areNone(t, "gaps at 39")
	// At 0 too; and time that is held at MaxTime takes nothing more away.
	zero := bothOf(3)
	zero.add(t, at(0, n(9)))
	zero.advance(t, 2)
	zero.are(t, "0 at 2", told{n(9), 1}, told{n(9), 1})
	zero.advance(t, 3)
	zero.areNone(t, "0 at 3")
	last := filled(t, 4, api.MaxTime, ticked(api.MaxTime-3, api.MaxTime)...)
	for _, now := range []int{api.MaxTime, api.MaxTime + 1, api.MaxTime + 100, math.MaxInt} {
		last.advance(t, now)
		if last.low.Kept() != 4 || last.high.Kept() != 1 {
			t.Errorf("P13.1: to %d: %d and %d kept", now, last.low.Kept(), last.high.Kept())
		}
	}
}

func TestAdd(t *testing.T) {
	for _, c := range []struct {
		what        string
		window, now int
		there       []api.Sample // added when they were new
		t           int
		want        api.Errno
	}{
		{"above now", 5, 20, nil, 21, 152}, {"far above now", 5, 20, nil, math.MaxInt, 152}, {"above MaxTime", 5, api.MaxTime, nil, api.MaxTime + 1, 152}, {"above what now was held at", 5, api.MaxTime + 50, nil, api.MaxTime + 1, 152},
		{"at now", 5, 20, nil, 20, 0}, {"at now, of 1", 1, 20, nil, 20, 0}, {"at MaxTime", 5, api.MaxTime + 50, nil, api.MaxTime, 0},
		{"at now less the window", 5, 20, nil, 15, 152}, {"at now less 1", 1, 20, nil, 19, 152}, {"at now less MaxRange", 100, 200, nil, 100, 152}, {"at now less what MaxRange holds", 150, 200, nil, 100, 152}, {"below that", 5, 20, nil, 14, 152}, {"far below that", 5, 20, nil, 0, 152},
		{"one above it", 5, 20, nil, 16, 0}, {"one above MaxRange", 100, 200, nil, 101, 0}, {"one above what MaxRange holds", 150, 200, nil, 101, 0},
		{"below 0", 5, 0, nil, -1, 152}, {"below 0, in the window", 5, 2, nil, -2, 152}, {"below 0, at now less the window", 5, 2, nil, -3, 152}, {"far below 0", 100, 3, nil, math.MinInt, 152}, {"at 0, in the window", 5, 2, nil, 0, 0}, {"at 0, at now less the window", 5, 5, nil, 0, 152}, {"at 0, one above it", 5, 4, nil, 0, 0},
		// The last one that was added is there.
		{"at the last one", 5, 20, ticked(18, 18), 18, 150}, {"below the last one", 5, 20, ticked(18, 18), 17, 150}, {"below the last one, the least", 5, 20, ticked(18, 18), 16, 150}, {"between two", 5, 20, []api.Sample{at(16, n(1)), at(19, n(2))}, 17, 150},
		{"above the last one", 5, 20, ticked(18, 18), 19, 0}, {"far above the last one", 5, 20, ticked(16, 16), 20, 0}, {"above the last one of many", 5, 20, ticked(16, 19), 20, 0},
		{"at the last one, at now", 5, 20, ticked(20, 20), 20, 150}, {"at the last one, of 1", 1, 20, ticked(20, 20), 20, 150}, {"at the last one, at 0", 5, 0, ticked(0, 0), 0, 150}, {"at the last one, at MaxTime", 5, api.MaxTime, ticked(api.MaxTime, api.MaxTime), api.MaxTime, 150},
		// It isn't newer, and it is out of the window: the window comes first.
		{"both, at now less the window", 5, 20, ticked(18, 18), 15, 152}, {"both, below 0", 5, 2, ticked(1, 1), -1, 152}, {"both, far below", 5, 20, ticked(20, 20), math.MinInt, 152}, {"newer, but above now", 5, 20, ticked(20, 20), 21, 152},
		// It is gone.
		{"at one that is gone", 5, 25, ticked(20, 20), 20, 152}, {"below one that is gone", 5, 25, ticked(20, 20), 19, 152}, {"above one that is gone", 5, 25, ticked(20, 20), 21, 0}, {"at now, above one that is gone", 5, 25, ticked(20, 20), 25, 0}, {"above one that is gone, but out", 5, 26, ticked(20, 20), 21, 152}, {"at one that is long gone", 5, 500, ticked(16, 20), 20, 152}, {"in the window, long behind it", 5, 500, ticked(16, 20), 496, 0},
		{"at one that isn't gone yet", 5, 24, ticked(20, 20), 20, 150}, {"at the first, that is gone", 5, 24, ticked(18, 20), 18, 152}, {"at the second, that isn't the last", 5, 22, ticked(17, 20), 18, 150},
		// Those ahead of the last one were beaten and forgotten: by the greatest where values rise, by the least where they fall, by both where they are equal.
		{"at the first that rise", 5, 20, []api.Sample{at(16, n(1)), at(18, n(2))}, 16, 150}, {"between two that rise", 5, 20, []api.Sample{at(16, n(1)), at(18, n(2))}, 17, 150}, {"at the last that rise", 5, 20, []api.Sample{at(16, n(1)), at(18, n(2))}, 18, 150}, {"above two that rise", 5, 20, []api.Sample{at(16, n(1)), at(18, n(2))}, 19, 0},
		{"at the first that fall", 5, 20, []api.Sample{at(16, n(2)), at(18, n(1))}, 16, 150}, {"between two that fall", 5, 20, []api.Sample{at(16, n(2)), at(18, n(1))}, 17, 150}, {"at the last that fall", 5, 20, []api.Sample{at(16, n(2)), at(18, n(1))}, 18, 150}, {"above two that fall", 5, 20, []api.Sample{at(16, n(2)), at(18, n(1))}, 19, 0},
		{"at the first of equal ones", 5, 20, []api.Sample{at(16, n(2)), at(18, n(2))}, 16, 150}, {"at the last of equal ones", 5, 20, []api.Sample{at(16, n(2)), at(18, n(2))}, 18, 150}, {"above equal ones", 5, 20, []api.Sample{at(16, n(2)), at(18, n(2))}, 19, 0},
		{"at a beaten one that would be gone", 5, 21, []api.Sample{at(16, over), at(17, n(2)), at(18, over)}, 16, 152}, {"at a beaten one that wouldn't", 5, 21, []api.Sample{at(16, over), at(17, n(2)), at(18, over)}, 17, 150},
	} {
		b := filled(t, c.window, c.now, c.there...)
		was := b.m.there()
		e := b.add(t, at(c.t, n(77)))
		if e != c.want {
			t.Errorf("P13.1: %s: %v, for %v", c.what, e, c.want)
		}
		if e == api.OK {
			was = append(was, at(c.t, n(77)))
		}
		b.hold(t, was)
	}
}

// TestRefusedChangesNothing: what is refused neither beats anything, nor counts as the last one, nor is in anything's way.
func TestRefusedChangesNothing(t *testing.T) {
	for _, v := range []api.Num{over, n(top), n(5), n(-top), {N: math.MinInt64}} {
		b := filled(t, 5, 20, at(17, n(5)))
		for _, bad := range []int{math.MinInt, -1, 0, 15, 16, 17, 21, 25, math.MaxInt} {
			if e := b.add(t, at(bad, v)); e == api.OK {
				t.Errorf("P13.1: %d was taken", bad)
			}
			b.are(t, fmt.Sprint("refused: ", bad), told{n(5), 1}, told{n(5), 1})
		}
		for next := 18; next <= 20; next++ {
			if e := b.add(t, at(next, n(6))); e != api.OK {
				t.Errorf("P13.1: %d behind refused ones: %v", next, e)
			}
		}
		// A time that is refused as it is above now is taken when now has come to it.
		if e := b.add(t, at(21, n(7))); e != api.ErrTime {
			t.Errorf("P13.1: 21 at 20: %v", e)
		}
		b.advance(t, 21)
		if e := b.add(t, at(21, n(7))); e != api.OK {
			t.Errorf("P13.1: 21 at 21: %v", e)
		}
		b.are(t, "at 21", told{n(5), 3}, told{n(7), 1})
	}
}

// P13.1 and P13.2: Get, Kept

func TestByHand(t *testing.T) {
	for _, c := range []struct {
		values    []api.Num
		low, high told
	}{
		{[]api.Num{n(0)}, told{n(0), 1}, told{n(0), 1}}, {[]api.Num{n(-7)}, told{n(-7), 1}, told{n(-7), 1}},
		{[]api.Num{n(1), n(2)}, told{n(1), 2}, told{n(2), 1}}, {[]api.Num{n(2), n(1)}, told{n(1), 1}, told{n(2), 2}}, {[]api.Num{n(2), n(2)}, told{n(2), 1}, told{n(2), 1}},
		{[]api.Num{n(1), n(2), n(3), n(4)}, told{n(1), 4}, told{n(4), 1}}, {[]api.Num{n(4), n(3), n(2), n(1)}, told{n(1), 1}, told{n(4), 4}}, {[]api.Num{n(3), n(3), n(3), n(3)}, told{n(3), 1}, told{n(3), 1}},
		{[]api.Num{n(2), n(3), n(1)}, told{n(1), 1}, told{n(3), 2}}, {[]api.Num{n(2), n(1), n(3)}, told{n(1), 2}, told{n(3), 1}}, {[]api.Num{n(1), n(3), n(2)}, told{n(1), 2}, told{n(3), 2}}, {[]api.Num{n(3), n(1), n(2)}, told{n(1), 2}, told{n(3), 2}},
		{[]api.Num{n(1), n(2), n(2), n(3)}, told{n(1), 3}, told{n(3), 1}}, {[]api.Num{n(3), n(2), n(2), n(1)}, told{n(1), 1}, told{n(3), 3}}, {[]api.Num{n(5), n(1), n(5)}, told{n(1), 2}, told{n(5), 1}}, {[]api.Num{n(1), n(5), n(1)}, told{n(1), 1}, told{n(5), 2}},
		{[]api.Num{n(0), n(-1), n(1)}, told{n(-1), 2}, told{n(1), 1}}, {[]api.Num{n(-1), n(-2)}, told{n(-2), 1}, told{n(-1), 2}}, {[]api.Num{n(-2), n(-1)}, told{n(-2), 2}, told{n(-1), 1}},
		// The ends of the range of numbers.
		{[]api.Num{n(top), n(-top)}, told{n(-top), 1}, told{n(top), 2}}, {[]api.Num{n(-top), n(top)}, told{n(-top), 2}, told{n(top), 1}}, {[]api.Num{n(top - 1), n(top)}, told{n(top - 1), 2}, told{n(top), 1}}, {[]api.Num{n(-top), n(1 - top)}, told{n(-top), 2}, told{n(1 - top), 1}}, {[]api.Num{n(1 - top), n(-top)}, told{n(-top), 1}, told{n(1 - top), 2}}, {[]api.Num{n(top), n(top)}, told{n(top), 1}, told{n(top), 1}}, {[]api.Num{n(-top), n(-top)}, told{n(-top), 1}, told{n(-top), 1}},
		// Overflow is above all others, and the same as itself.
		{[]api.Num{over}, told{over, 1}, told{over, 1}}, {[]api.Num{over, over}, told{over, 1}, told{over, 1}}, {[]api.Num{over, over, over}, told{over, 1}, told{over, 1}},
		{[]api.Num{over, n(1)}, told{n(1), 1}, told{over, 2}}, {[]api.Num{n(1), over}, told{n(1), 2}, told{over, 1}}, {[]api.Num{over, n(0)}, told{n(0), 1}, told{over, 2}}, {[]api.Num{n(0), over}, told{n(0), 2}, told{over, 1}}, {[]api.Num{over, n(top)}, told{n(top), 1}, told{over, 2}}, {[]api.Num{n(top), over}, told{n(top), 2}, told{over, 1}}, {[]api.Num{n(-top), over}, told{n(-top), 2}, told{over, 1}}, {[]api.Num{over, n(-top)}, told{n(-top), 1}, told{over, 2}},
		{[]api.Num{over, n(1), over}, told{n(1), 2}, told{over, 1}}, {[]api.Num{n(1), over, n(1)}, told{n(1), 1}, told{over, 2}}, {[]api.Num{n(2), over, n(1)}, told{n(1), 1}, told{over, 2}}, {[]api.Num{n(1), over, n(2)}, told{n(1), 2}, told{over, 2}}, {[]api.Num{over, n(3), n(2), over, n(2), n(1)}, told{n(1), 1}, told{over, 3}}, {[]api.Num{n(1), over, over, n(2)}, told{n(1), 2}, told{over, 2}},
	} {
		valued(t, c.values...).are(t, fmt.Sprint(c.values), c.low, c.high)
	}
}

// TestFullWindow: as many values as there can be, of narrow windows and of wide ones.
func TestFullWindow(t *testing.T) {
	for _, window := range []int{1, 2, 3, 7, 50, 99, 100, 120} {
		width := min(window, 100)
		rising, falling, equal := bothOf(window), bothOf(window), bothOf(window)
		for now := range 350 {
			for _, b := range []*both{rising, falling, equal} {
				b.advance(t, now)
			}
			rising.add(t, at(now, n(int64(now))))
			falling.add(t, at(now, n(-int64(now))))
			equal.add(t, at(now, n(4)))
			what, first, count := fmt.Sprint("window ", window, " at ", now), int64(max(0, now-width+1)), min(now+1, width)
			rising.are(t, what, told{n(first), count}, told{n(int64(now)), 1})
			falling.are(t, what, told{n(-int64(now)), 1}, told{n(-first), count})
			equal.are(t, what, told{n(4), 1}, told{n(4), 1})
		}
		// A last one that beats all of them.
		for _, b := range []*both{rising, falling, equal} {
			b.advance(t, 350)
		}
		rising.add(t, at(350, n(-1)))
		falling.add(t, at(350, over))
		equal.add(t, at(350, n(3)))
		is(t, "all of a rising row are beaten", rising.low, told{n(-1), 1})
		is(t, "all of a falling row are beaten", falling.high, told{over, 1})
		is(t, "all equal ones are beaten", equal.low, told{n(3), 1})
	}
}

// TestBestGoes: the next best is told when the best one is out of the window, and one fewer is kept.
func TestBestGoes(t *testing.T) {
	for _, c := range []struct {
		values    []api.Num // at 1, 2, .. in a window of as many
		low, high []told    // when 0, 1, 2 .. of them are gone
	}{
		{[]api.Num{n(3), n(1), n(2)}, []told{{n(1), 2}, {n(1), 2}, {n(2), 1}}, []told{{n(3), 2}, {n(2), 1}, {n(2), 1}}},
		{[]api.Num{n(1), n(3), n(2)}, []told{{n(1), 2}, {n(2), 1}, {n(2), 1}}, []told{{n(3), 2}, {n(3), 2}, {n(2), 1}}},
		{[]api.Num{n(5), n(4), n(5), n(4)}, []told{{n(4), 1}, {n(4), 1}, {n(4), 1}, {n(4), 1}}, []told{{n(5), 2}, {n(5), 2}, {n(5), 2}, {n(4), 1}}},
		{[]api.Num{n(4), n(5), n(4), n(5)}, []told{{n(4), 2}, {n(4), 2}, {n(4), 2}, {n(5), 1}}, []told{{n(5), 1}, {n(5), 1}, {n(5), 1}, {n(5), 1}}},
		{[]api.Num{n(1), n(2), n(3)}, []told{{n(1), 3}, {n(2), 2}, {n(3), 1}}, []told{{n(3), 1}, {n(3), 1}, {n(3), 1}}},
		{[]api.Num{n(3), n(2), n(1)}, []told{{n(1), 1}, {n(1), 1}, {n(1), 1}}, []told{{n(3), 3}, {n(2), 2}, {n(1), 1}}},
		{[]api.Num{n(6), n(6), n(6)}, []told{{n(6), 1}, {n(6), 1}, {n(6), 1}}, []told{{n(6), 1}, {n(6), 1}, {n(6), 1}}},
		// Overflow that was told goes as any other value, and one that waited is told then.
		{[]api.Num{over, n(7), n(6)}, []told{{n(6), 1}, {n(6), 1}, {n(6), 1}}, []told{{over, 3}, {n(7), 2}, {n(6), 1}}},
		{[]api.Num{n(6), n(7), over}, []told{{n(6), 3}, {n(7), 2}, {over, 1}}, []told{{over, 1}, {over, 1}, {over, 1}}},
		{[]api.Num{over, n(7), over, n(6)}, []told{{n(6), 1}, {n(6), 1}, {n(6), 1}, {n(6), 1}}, []told{{over, 2}, {over, 2}, {over, 2}, {n(6), 1}}},
		{[]api.Num{over, over}, []told{{over, 1}, {over, 1}}, []told{{over, 1}, {over, 1}}},
		{[]api.Num{n(top), n(-top), over}, []told{{n(-top), 2}, {n(-top), 2}, {over, 1}}, []told{{over, 1}, {over, 1}, {over, 1}}},
	} {
		width := len(c.values)
		b := filled(t, width, width, samples(c.values...)...)
		for gone := range width {
			b.advance(t, width+gone)
			b.are(t, fmt.Sprint(gone, " of ", c.values, " gone"), c.low[gone], c.high[gone])
		}
		b.advance(t, 2*width)
		b.areNone(t, fmt.Sprint("all of ", c.values, " gone"))
	}
}

// TestStrangeValues: what isn't fix's Is counts, and is told, as overflow.
func TestStrangeValues(t *testing.T) {
	for _, v := range strange() {
		valued(t, v).are(t, fmt.Sprint("alone: ", v), told{over, 1}, told{over, 1})
		valued(t, v, n(-5)).are(t, fmt.Sprint("ahead: ", v), told{n(-5), 1}, told{over, 2})
		valued(t, n(-5), v).are(t, fmt.Sprint("behind: ", v), told{n(-5), 2}, told{over, 1})
		for _, w := range append(strange(), over) {
			valued(t, v, w).are(t, fmt.Sprint(v, " ahead of ", w), told{over, 1}, told{over, 1})
			valued(t, v, n(top), w).are(t, fmt.Sprint(v, " and ", w), told{n(top), 2}, told{over, 1})
		}
		// Where all others are gone it is told of the least too.
		b := filled(t, 2, 3, at(1, n(1)), at(2, v))
		b.are(t, fmt.Sprint("left: ", v), told{over, 1}, told{over, 1})
		// An error comes as of any other value.
		b = filled(t, 5, 20, at(18, n(1)))
		for t0, want := range map[int]api.Errno{21: 152, 15: 152, -1: 152, 18: 150, 16: 150} {
			if e := b.add(t, at(t0, v)); e != want {
				t.Errorf("P13.1: %v at %d: %v, for %v", v, t0, e, want)
			}
		}
		b.are(t, fmt.Sprint("refused: ", v), told{n(1), 1}, told{n(1), 1})
	}
}

// TestKeptAreTold: as time goes on without new ones, as many samples are told as were kept, one behind the other.
func TestKeptAreTold(t *testing.T) {
	r := rand.New(rand.NewSource(131))
	for range 300 {
		b := bothOf(1 + r.Intn(30))
		for range r.Intn(60) {
			b.advance(t, b.m.now+r.Intn(3))
			b.add(t, at(b.m.now-r.Intn(3), value(r)))
		}
		for i, x := range []*Extreme{b.low, b.high} {
			kept := x.Kept()
			tellers := map[api.Num]int{} // no two that are kept have one value
			for step := range b.m.width + 1 {
				x.Advance(b.m.now + step)
				if v, ok := x.Get(); ok {
					tellers[v]++
				}
			}
			if len(tellers) != kept || x.Kept() != 0 {
				t.Fatalf("P13.2: greatest %v: %s: %d kept, of which %v are told", i == 1, b.trail, kept, tellers)
			}
		}
	}
}

// P13.3

// TestBeatenAreForgotten: what is held is what is unbeaten in the window, and nothing else.
func TestBeatenAreForgotten(t *testing.T) {
	held := func(x *Extreme) []api.Sample {
		l := []api.Sample{}
		for i := range x.count {
			l = append(l, x.sample(i))
		}
		return l
	}
	r := rand.New(rand.NewSource(132))
	for range 200 {
		b := bothOf(r.Intn(120))
		for range 200 {
			b.advance(t, b.m.now+r.Intn(3))
			b.add(t, at(b.m.now-r.Intn(3), value(r)))
			for i, x := range []*Extreme{b.low, b.high} {
				if got, want := held(x), unbeaten(i == 1, b.m.there()); !slices.Equal(got, want) {
					t.Fatalf("P13.3: greatest %v: %s: %v, for %v", i == 1, b.trail, got, want)
				}
			}
		}
	}
}

// TestBeatenByHand: a new one beats those that are as good or worse, and no others.
func TestBeatenByHand(t *testing.T) {
	rising, falling := []api.Num{n(1), n(2), n(3)}, []api.Num{n(3), n(2), n(1)}
	for _, c := range []struct {
		there     []api.Num
		comes     api.Num
		low, high int // kept, when it has come
	}{
		{rising, n(4), 4, 1}, {rising, n(3), 3, 1}, {rising, n(2), 2, 2}, {rising, n(1), 1, 2}, {rising, n(0), 1, 2}, {rising, over, 4, 1},
		{falling, n(4), 2, 1}, {falling, n(3), 2, 1}, {falling, n(2), 2, 2}, {falling, n(1), 1, 3}, {falling, n(0), 1, 4}, {falling, over, 2, 1},
		{[]api.Num{over, n(2), over}, over, 2, 1}, {[]api.Num{over, n(2), over}, n(2), 1, 2}, {[]api.Num{n(-top), n(top)}, n(-top), 1, 2}, {[]api.Num{n(-top), n(top)}, n(top), 2, 1},
	} {
		b := valued(t, append(slices.Clone(c.there), c.comes)...)
		if b.low.Kept() != c.low || b.high.Kept() != c.high {
			t.Errorf("P13.3: %v behind %v: %d and %d kept, for %d and %d", c.comes, c.there, b.low.Kept(), b.high.Kept(), c.low, c.high)
		}
	}
}

// TestBeatenPlayNoPart: with those that were beaten, and without them, all goes on alike.
func TestBeatenPlayNoPart(t *testing.T) {
	r := rand.New(rand.NewSource(133))
	for range 200 {
		window := 1 + r.Intn(20)
		all := bothOf(window)
		for range 40 {
			all.advance(t, all.m.now+r.Intn(2))
			all.add(t, at(all.m.now, value(r)))
		}
		now := all.m.now
		low := filled(t, window, now, unbeaten(false, all.m.there())...)
		high := filled(t, window, now, unbeaten(true, all.m.there())...)
		for range 40 {
			now += r.Intn(2)
			s := at(now-r.Intn(2), value(r))
			for _, b := range []*both{all, low, high} {
				b.advance(t, now)
				b.add(t, s)
			}
			if toldBy(all.low) != toldBy(low.low) || toldBy(all.high) != toldBy(high.high) {
				t.Fatalf("P13.3: %s: not as without those that were beaten", all.trail)
			}
		}
	}
}

// Against the model.

// TestAllShortPasts: each row of a few calls, of narrow windows.
func TestAllShortPasts(t *testing.T) {
	calls := []func(b *both){}
	for _, step := range []int{-1, 0, 1, 2, 3} {
		calls = append(calls, func(b *both) { b.advance(t, b.m.now+step) })
	}
	for back := -1; back <= 2; back++ {
		for _, v := range []api.Num{n(-1), n(0), over} {
			calls = append(calls, func(b *both) { b.add(t, at(b.m.now-back, v)) })
		}
	}
	const long = 4
	pasts := 1
	for range long {
		pasts *= len(calls)
	}
	for window := 1; window <= 3; window++ {
		for past := range pasts {
			b := bothOf(window)
			for range long {
				calls[past%len(calls)](b)
				past /= len(calls)
			}
		}
	}
}

// TestAllShortRows: each row of up to six of four values, and what is left of it as it goes.
func TestAllShortRows(t *testing.T) {
	values := []api.Num{n(-1), n(0), n(1), over}
	for long := 1; long <= 6; long++ {
		for row := range 1 << (2 * long) {
			b := bothOf(4)
			for now := range long {
				b.advance(t, now)
				b.add(t, at(now, values[row>>(2*now)&3]))
			}
			for now := long; now < long+4; now++ {
				b.advance(t, now)
			}
			b.areNone(t, b.trail)
		}
	}
}

func TestRandomPasts(t *testing.T) {
	r := rand.New(rand.NewSource(134))
	for range 250 {
		b := bothOf(r.Intn(125) - 10)
		far := 1 + r.Intn(60)
		if r.Intn(5) == 0 {
			b.advance(t, api.MaxTime-r.Intn(200))
		}
		for range 250 {
			if r.Intn(3) == 0 {
				b.advance(t, b.m.now+r.Intn(far)-far/4)
			} else {
				b.add(t, at(b.m.now-r.Intn(1+r.Intn(far))+r.Intn(2), value(r)))
			}
		}
		b.again(t).hold(t, b.m.there())
	}
}

// What stands for each call.

// TestAlone: what one is told the others don't hear of.
func TestAlone(t *testing.T) {
	r := rand.New(rand.NewSource(135))
	l := []*both{bothOf(5), bothOf(5), bothOf(100), bothOf(1), bothOf(30)}
	for range 3000 {
		b := l[r.Intn(len(l))]
		if r.Intn(2) == 0 {
			b.advance(t, b.m.now+r.Intn(3))
		} else {
			b.add(t, at(b.m.now-r.Intn(3), value(r)))
		}
		for _, other := range l {
			other.hold(t, other.m.there())
		}
	}
}

// TestLongPast: far more samples than are ever there.
func TestLongPast(t *testing.T) {
	low, high := New(api.MaxRange, false), New(api.MaxRange, true)
	for now := range api.MaxTime + 1 {
		v := n(int64(now % 250))
		for _, x := range []*Extreme{low, high} {
			x.Advance(now)
			if e := x.Add(at(now, v)); e != api.OK {
				t.Fatalf("P13.1: %d: %v", now, e)
			}
		}
		if now < 250 {
			continue
		}
		// The values rise up to 249 and fall back to 0, once in 250 ticks.
		turn := now % 250
		wantLow, wantHigh := told{n(int64(max(0, turn-99))), min(turn+1, 100)}, told{v, 1}
		if turn < 99 {
			wantHigh = told{n(249), 2}
		}
		if toldBy(low) != wantLow || toldBy(high) != wantHigh {
			t.Fatalf("P13.1: at %d: %v, for %v; %v, for %v", now, toldBy(low), wantLow, toldBy(high), wantHigh)
		}
	}
}

func FuzzExtreme(f *testing.F) {
	f.Add(5, []byte{3, 1, 8, 2, 7, 200, 9, 255})
	f.Add(100, []byte{0, 1, 0, 1, 130, 60, 77, 254, 12, 3})
	f.Add(-1, []byte{255, 255, 128, 0, 2, 1})
	f.Fuzz(func(t *testing.T, window int, calls []byte) {
		b := bothOf(window)
		for i := 0; i+1 < len(calls) && i < 400; i += 2 {
			much := int(calls[i+1])
			switch what := int(calls[i]); {
			case what < 100:
				b.advance(t, b.m.now+much/8-2)
			case what == 100:
				b.advance(t, api.MaxTime+much-128)
			case what < 240:
				b.add(t, at(b.m.now-what%8+1, n(int64(much)/16-8)))
			default:
				b.add(t, at(b.m.now-what%3, value(rand.New(rand.NewSource(int64(much))))))
			}
		}
	})
}
