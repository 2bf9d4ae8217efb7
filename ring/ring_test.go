package ring

import (
	"fmt"
	"math"
	"math/rand"
	"slices"
	"testing"

	"spillway/api"
)

func ringAt(window, now int) *Ring {
	r := New(window)
	r.Advance(now)
	return r
}

// filled: a ring at now with these samples, which it must take.
func filled(t testing.TB, window, now int, l ...api.Sample) *Ring {
	t.Helper()
	r := New(window)
	for _, s := range l {
		r.Advance(s.T)
		if e := r.Add(s); e != api.OK {
			t.Fatalf("P12.1: window %d: %v: %v", window, s, e)
		}
	}
	r.Advance(now)
	return r
}

// valued: a ring of the widest window with these values, one at each tick from 1 on.
func valued(t testing.TB, l ...api.Num) *Ring {
	t.Helper()
	return filled(t, api.MaxRange, len(l), samples(l...)...)
}

func samples(l ...api.Num) []api.Sample {
	out := []api.Sample{}
	for i, v := range l {
		out = append(out, at(i+1, v))
	}
	return out
}

// ticked: samples from one time to another, one at each tick.
func ticked(from, to int) []api.Sample {
	out := []api.Sample{}
	for t := from; t <= to; t++ {
		out = append(out, at(t, n(int64(t)*7-300)))
	}
	return out
}

// P12.1

func TestExample(t *testing.T) {
	r := New(5)
	r.Advance(7)
	if e, f := r.Add(at(3, n(1000000))), r.Add(at(7, n(2000000))); e != api.OK || f != api.OK {
		t.Fatalf("P12.1: %v, %v", e, f)
	}
	holds(t, "at 7", r, []api.Sample{at(3, n(1000000)), at(7, n(2000000))})
	r.Advance(8)
	holds(t, "at 8", r, []api.Sample{at(7, n(2000000))})
}

func TestNew(t *testing.T) {
	for _, window := range []int{math.MinInt, -1, 0, 1, 5, api.MaxRange, math.MaxInt} {
		r := New(window)
		holds(t, fmt.Sprint("new of ", window), r, nil)
		// Now is 0.
		if e := r.Add(at(1, n(1))); e != api.ErrTime {
			t.Errorf("P12.1: %d: 1 at 0: %v", window, e)
		}
		if e := r.Add(at(0, n(1))); e != api.OK {
			t.Errorf("P12.1: %d: 0 at 0: %v", window, e)
		}
		holds(t, fmt.Sprint("0 in ", window), r, []api.Sample{at(0, n(1))})
	}
}

// TestWidth: of all ticks up to now as many are taken as the window is wide, and so many are kept.
func TestWidth(t *testing.T) {
	for window, want := range map[int]int{
		math.MinInt: 1, math.MinInt32: 1, -100: 1, -1: 1, 0: 1, 1: 1, 2: 2, 3: 3, 50: 50, 99: 99,
		100: 100, 101: 100, 128: 100, 1000: 100, 1 << 32: 100, 1<<32 + 5: 100, math.MaxInt: 100,
	} {
		r := ringAt(window, 1000)
		for _, s := range ticked(0, 1001) {
			e := r.Add(s)
			if isIn := s.T > 1000-want && s.T <= 1000; isIn != (e == api.OK) || !isIn && e != api.ErrTime {
				t.Fatalf("P12.1: window %d: %d at 1000: %v", window, s.T, e)
			}
		}
		holds(t, fmt.Sprint("window ", window), r, ticked(1001-want, 1000))
		// One by one they go.
		for gone := 1; gone <= want; gone++ {
			r.Advance(1000 + gone)
			holds(t, fmt.Sprint("window ", window, " to ", 1000+gone), r, ticked(1001-want+gone, 1000))
		}
	}
}

// TestTime: now is the greatest that it was advanced to, MaxTime at most.
func TestTime(t *testing.T) {
	for _, c := range []struct {
		to   []int
		want int
	}{
		{nil, 0}, {[]int{0}, 0}, {[]int{-1}, 0}, {[]int{math.MinInt}, 0},
		{[]int{1}, 1}, {[]int{1, 1}, 1}, {[]int{1, 2, 3}, 3}, {[]int{7}, 7}, {[]int{7, 6}, 7}, {[]int{7, 0}, 7}, {[]int{7, -7}, 7}, {[]int{7, math.MinInt}, 7}, {[]int{7, 3, 9, 8}, 9},
		{[]int{999999}, 999999}, {[]int{api.MaxTime}, 1000000}, {[]int{api.MaxTime + 1}, 1000000}, {[]int{math.MaxInt}, 1000000}, {[]int{1 << 32}, 1000000}, {[]int{999999, api.MaxTime + 5}, 1000000}, {[]int{api.MaxTime, 5}, 1000000}, {[]int{api.MaxTime + 9, api.MaxTime - 1}, 1000000}, {[]int{math.MaxInt, math.MinInt}, 1000000},
	} {
		for _, probe := range []struct {
			t    int
			want api.Errno
		}{{c.want + 1, 152}, {c.want, 0}, {c.want - 4, 0}, {c.want - 5, 152}} {
			if probe.t < 0 {
				continue
			}
			r := New(5)
			for _, now := range c.to {
				r.Advance(now)
			}
			if e := r.Add(at(probe.t, n(1))); e != probe.want {
				t.Errorf("P12.1: advanced to %v: %d: %v, for %v", c.to, probe.t, e, probe.want)
			}
		}
	}
}

// TestAdvanceForgets: what is at most now less the window is gone, and nothing else.
func TestAdvanceForgets(t *testing.T) {
	for _, c := range []struct {
		now  int
		want []api.Sample // of 21 to 25 in a window of 5
	}{
		{math.MinInt, ticked(21, 25)}, {-1, ticked(21, 25)}, {0, ticked(21, 25)}, {20, ticked(21, 25)}, {24, ticked(21, 25)}, {25, ticked(21, 25)},
		{26, ticked(22, 25)}, {27, ticked(23, 25)}, {28, ticked(24, 25)}, {29, ticked(25, 25)}, {30, nil}, {31, nil}, {35, nil},
		{500, nil}, {api.MaxTime - 1, nil}, {api.MaxTime, nil}, {api.MaxTime + 1, nil}, {math.MaxInt, nil},
	} {
		r := filled(t, 5, 25, ticked(21, 25)...)
		r.Advance(c.now)
		holds(t, fmt.Sprint("to ", c.now), r, c.want)
	}
	// Between them there may be gaps.
	r := filled(t, 10, 29, at(20, n(1)), at(23, n(2)), at(29, n(3)))
	holds(t, "gaps at 29", r, []api.Sample{at(20, n(1)), at(23, n(2)), at(29, n(3))})
	for now, want := range map[int][]api.Sample{30: {at(23, n(2)), at(29, n(3))}, 32: {at(23, n(2)), at(29, n(3))}, 33: {at(29, n(3))}, 38: {at(29, n(3))}, 39: nil} {
		r := filled(t, 10, now, at(20, n(1)), at(23, n(2)), at(29, n(3)))
		holds(t, fmt.Sprint("gaps at ", now), r, want)
	}
	// At 0 too; and time that is held at MaxTime takes nothing more away.
	for now, want := range map[int][]api.Sample{0: {at(0, n(9))}, 2: {at(0, n(9))}, 3: nil} {
		r := New(3)
		if e := r.Add(at(0, n(9))); e != api.OK {
			t.Errorf("P12.1: 0 at 0: %v", e)
		}
		r.Advance(now)
		holds(t, fmt.Sprint("0 at ", now), r, want)
	}
	r = filled(t, 4, api.MaxTime, ticked(api.MaxTime-3, api.MaxTime)...)
	for _, now := range []int{api.MaxTime, api.MaxTime + 1, api.MaxTime + 100, math.MaxInt} {
		r.Advance(now)
		holds(t, fmt.Sprint("to ", now), r, ticked(api.MaxTime-3, api.MaxTime))
	}
}

func TestAdd(t *testing.T) {
	for _, c := range []struct {
		what        string
		window, now int
		there       []api.Sample // added when they were new
		t           int
		want        api.Errno
	}{
		{"above now", 5, 20, nil, 21, 152}, {"far above now", 5, 20, nil, math.MaxInt, 152}, {"above MaxTime", 5, api.MaxTime, nil, api.MaxTime + 1, 152}, {"above what now was held at", 5, api.MaxTime + 50, nil, api.MaxTime + 1, 152},
		{"at now", 5, 20, nil, 20, 0}, {"at now, of 1", 1, 20, nil, 20, 0}, {"at MaxTime", 5, api.MaxTime + 50, nil, api.MaxTime, 0},
		{"at now less the window", 5, 20, nil, 15, 152}, {"at now less 1", 1, 20, nil, 19, 152}, {"at now less MaxRange", 100, 200, nil, 100, 152}, {"at now less what MaxRange holds", 150, 200, nil, 100, 152}, {"below that", 5, 20, nil, 14, 152}, {"far below that", 5, 20, nil, 0, 152},
		{"one above it", 5, 20, nil, 16, 0}, {"one above MaxRange", 100, 200, nil, 101, 0}, {"one above what MaxRange holds", 150, 200, nil, 101, 0},
		{"below 0", 5, 0, nil, -1, 152}, {"below 0, in the window", 5, 2, nil, -2, 152}, {"below 0, at now less the window", 5, 2, nil, -3, 152}, {"far below 0", 100, 3, nil, math.MinInt, 152}, {"at 0, in the window", 5, 2, nil, 0, 0}, {"at 0, at now less the window", 5, 5, nil, 0, 152}, {"at 0, one above it", 5, 4, nil, 0, 0},
		// The last one that was added is there.
		{"at the last one", 5, 20, ticked(18, 18), 18, 150}, {"below the last one", 5, 20, ticked(18, 18), 17, 150}, {"below the last one, the least", 5, 20, ticked(18, 18), 16, 150}, {"between two", 5, 20, []api.Sample{at(16, n(1)), at(19, n(2))}, 17, 150}, {"at the first of two", 5, 20, ticked(16, 17), 16, 150},
		{"above the last one", 5, 20, ticked(18, 18), 19, 0}, {"far above the last one", 5, 20, ticked(16, 16), 20, 0}, {"above the last one of many", 5, 20, ticked(16, 19), 20, 0},
		{"at the last one, at now", 5, 20, ticked(20, 20), 20, 150}, {"at the last one, of 1", 1, 20, ticked(20, 20), 20, 150}, {"at the last one, at 0", 5, 0, ticked(0, 0), 0, 150}, {"at the last one, at MaxTime", 5, api.MaxTime, ticked(api.MaxTime, api.MaxTime), api.MaxTime, 150},
		// It isn't newer, and it is out of the window: the window comes first.
		{"both, at now less the window", 5, 20, ticked(18, 18), 15, 152}, {"both, below 0", 5, 2, ticked(1, 1), -1, 152}, {"both, far below", 5, 20, ticked(20, 20), math.MinInt, 152}, {"newer, but above now", 5, 20, ticked(20, 20), 21, 152},
		// It is gone.
		{"at one that is gone", 5, 25, ticked(20, 20), 20, 152}, {"below one that is gone", 5, 25, ticked(20, 20), 19, 152}, {"above one that is gone", 5, 25, ticked(20, 20), 21, 0}, {"at now, above one that is gone", 5, 25, ticked(20, 20), 25, 0}, {"above one that is gone, but out", 5, 26, ticked(20, 20), 21, 152}, {"at one that is long gone", 5, 500, ticked(16, 20), 20, 152}, {"in the window, long behind it", 5, 500, ticked(16, 20), 496, 0},
		{"at one that isn't gone yet", 5, 24, ticked(20, 20), 20, 150}, {"at the first, that is gone", 5, 24, ticked(18, 20), 18, 152}, {"at the second, that isn't the last", 5, 22, ticked(17, 20), 18, 150},
	} {
		r := filled(t, c.window, c.now, c.there...)
		was := r.All()
		e := r.Add(at(c.t, n(77)))
		if e != c.want {
			t.Errorf("P12.1: %s: %v, for %v", c.what, e, c.want)
		}
		if e == api.OK {
			was = append(was, at(c.t, n(77)))
		}
		holds(t, c.what, r, was)
	}
}

// TestRefusedChangesNothing: what is refused neither counts as the last one, nor is in anything's way.
func TestRefusedChangesNothing(t *testing.T) {
	r := filled(t, 5, 20, at(17, n(5)))
	for _, bad := range []int{math.MinInt, -1, 0, 15, 16, 17, 21, 25, math.MaxInt} {
		if e := r.Add(at(bad, over)); e == api.OK {
			t.Errorf("P12.1: %d was taken", bad)
		}
		holds(t, fmt.Sprint("refused: ", bad), r, []api.Sample{at(17, n(5))})
	}
	for next := 18; next <= 20; next++ {
		if e := r.Add(at(next, n(6))); e != api.OK {
			t.Errorf("P12.1: %d behind refused ones: %v", next, e)
		}
	}
	// A time that is refused as it is above now is taken when now has come to it.
	if e := r.Add(at(21, n(7))); e != api.ErrTime {
		t.Errorf("P12.1: 21 at 20: %v", e)
	}
	r.Advance(21)
	if e := r.Add(at(21, n(7))); e != api.OK {
		t.Errorf("P12.1: 21 at 21: %v", e)
	}
	holds(t, "at 21", r, []api.Sample{at(17, n(5)), at(18, n(6)), at(19, n(6)), at(20, n(6)), at(21, n(7))})
}

// TestRoundAndRound: as many as the window is wide, however often all of them have gone by.
func TestRoundAndRound(t *testing.T) {
	for _, window := range []int{1, 2, 3, 7, 50, 99, 100, 120} {
		width := min(window, 100)
		r := New(window)
		for now := range 350 {
			r.Advance(now)
			holds(t, fmt.Sprint("window ", window, " ahead of ", now), r, ticked(max(0, now-width+1), now-1))
			if e := r.Add(ticked(now, now)[0]); e != api.OK {
				t.Fatalf("P12.1: window %d: %d: %v", window, now, e)
			}
			holds(t, fmt.Sprint("window ", window, " at ", now), r, ticked(max(0, now-width+1), now))
		}
	}
}

// P12.2

func TestReadersByHand(t *testing.T) {
	first, last := at(1, n(4000000)), at(2, n(-500000))
	for _, c := range []struct {
		values []api.Num
		want   answers
	}{
		{nil, answers{}},
		{[]api.Num{n(4000000)}, answers{len: 1, count: 1, first: first, last: first, some: true, any: true, sum: n(4000000), avg: n(4000000), isAveraged: true}},
		{[]api.Num{n(4000000), n(-500000)}, answers{2, 2, first, last, true, true, n(3500000), n(1750000), n(-4500000), true, true}},
		{[]api.Num{n(4000000), n(1), n(2)}, answers{3, 3, first, at(3, n(2)), true, true, n(4000003), n(1333334), n(-3999998), true, true}},
	} {
		if got := told(valued(t, c.values...)); got != c.want {
			t.Errorf("P12.2: %v: %+v, for %+v", c.values, got, c.want)
		}
	}
}

func TestSumAvgDelta(t *testing.T) {
	for _, c := range []struct {
		values          []api.Num
		sum, avg, delta api.Num
	}{
		{[]api.Num{n(0)}, n(0), n(0), n(0)}, {[]api.Num{n(5), n(5)}, n(10), n(5), n(0)}, {[]api.Num{n(1), n(2), n(3), n(4)}, n(10), n(2), n(3)},
		// Cut off towards nought.
		{[]api.Num{n(1), n(0)}, n(1), n(0), n(-1)}, {[]api.Num{n(-1), n(0)}, n(-1), n(0), n(1)}, {[]api.Num{n(-1), n(-1), n(-3)}, n(-5), n(-1), n(-2)}, {[]api.Num{n(2), n(2), n(1)}, n(5), n(1), n(-1)}, {[]api.Num{n(-2), n(0), n(0)}, n(-2), n(0), n(2)},
		// The middle ones count for the sum alone.
		{[]api.Num{n(3), n(1000000), n(4)}, n(1000007), n(333335), n(1)}, {[]api.Num{n(3), over, n(4)}, over, over, n(1)},
		// Beyond what a number can be, on the way and at the end.
		{[]api.Num{n(top), n(0)}, n(top), n(top / 2), n(-top)}, {[]api.Num{n(top), n(1)}, over, over, n(1 - top)}, {[]api.Num{n(top), n(1), n(-1)}, n(top), n(top / 3), over}, {[]api.Num{n(-top), n(-1), n(1)}, n(-top), n(-(top / 3)), over}, {[]api.Num{n(-top), n(-1)}, over, over, n(top - 1)},
		{[]api.Num{n(top), n(top), n(-top), n(-top)}, n(0), n(0), over}, {[]api.Num{n(top), n(top), n(top), n(-top), n(-top)}, n(top), n(top / 5), over}, {[]api.Num{n(-top), n(-top), n(top)}, n(-top), n(-(top / 3)), over}, {[]api.Num{n(top), n(top)}, over, over, n(0)}, {[]api.Num{n(1), n(top), n(top), n(2)}, over, over, n(1)},
		{[]api.Num{n(-top), n(top)}, n(0), n(0), over}, {[]api.Num{n(-1), n(top)}, n(top - 1), n((top - 1) / 2), over}, {[]api.Num{n(0), n(top)}, n(top), n(top / 2), n(top)}, {[]api.Num{n(1), n(-top)}, n(1 - top), n(-(top - 1) / 2), over}, {[]api.Num{n(0), n(-top)}, n(-top), n(-(top / 2)), n(-top)},
		// Overflow, wherever it is.
		{[]api.Num{over}, over, over, n(0)}, {[]api.Num{over, over}, over, over, over}, {[]api.Num{over, n(1)}, over, over, over}, {[]api.Num{n(1), over}, over, over, over}, {[]api.Num{over, n(1), over}, over, over, over}, {[]api.Num{n(1), n(2), over, n(1)}, over, over, n(0)},
	} {
		r := valued(t, c.values...)
		avg, isAveraged := r.Avg()
		delta, isChanged := r.Delta()
		if r.Sum() != c.sum || avg != c.avg || delta != c.delta || !isAveraged || isChanged != (len(c.values) > 1) {
			t.Errorf("P12.2: %v: %v, %v %v, %v %v, for %v, %v, %v", c.values, r.Sum(), avg, isAveraged, delta, isChanged, c.sum, c.avg, c.delta)
		}
		holds(t, fmt.Sprint(c.values), r, samples(c.values...))
	}
}

// TestFullWindow: as many values as there can be.
func TestFullWindow(t *testing.T) {
	for _, v := range []api.Num{n(0), n(3), n(-top / 100), n(top / 100), n(top/100 + 1), n(top), over} {
		l := slices.Repeat([]api.Num{v}, 100)
		holds(t, fmt.Sprint("100 times ", v), valued(t, l...), samples(l...))
	}
	l := append(slices.Repeat([]api.Num{n(top)}, 50), slices.Repeat([]api.Num{n(-top)}, 50)...)
	if r := valued(t, l...); r.Sum() != n(0) {
		t.Errorf("P12.2: up and down: %v", r.Sum())
	}
}

// TestStrangeValues: what isn't fix's Is counts, and is told, as overflow.
func TestStrangeValues(t *testing.T) {
	for _, v := range strange() {
		alone := valued(t, v)
		holds(t, fmt.Sprint("alone: ", v), alone, samples(over))
		first, _ := alone.First()
		last, _ := alone.Last()
		if l := alone.All(); l[0] != at(1, over) || first != at(1, over) || last != at(1, over) || alone.Sum() != over {
			t.Errorf("P12.2: %v is told as %v, %v, %v", v, l, first, last)
		}
		for place := range 3 {
			l := []api.Num{n(1), n(2), n(3)}
			l[place] = v
			r := valued(t, l...)
			l[place] = over
			holds(t, fmt.Sprint(v, " at ", place), r, samples(l...))
		}
		// An error comes as of any other value.
		r := filled(t, 5, 20, at(18, n(1)))
		for t0, want := range map[int]api.Errno{21: 152, 15: 152, -1: 152, 18: 150, 16: 150} {
			if e := r.Add(at(t0, v)); e != want {
				t.Errorf("P12.1: %v at %d: %v, for %v", v, t0, e, want)
			}
		}
		holds(t, fmt.Sprint("refused: ", v), r, []api.Sample{at(18, n(1))})
	}
}

// P12.3

// TestOverflowGoes: with it goes all that it was to the sum.
func TestOverflowGoes(t *testing.T) {
	for _, v := range append(strange(), over, n(top), n(-top)) {
		kept := v
		if isOver(v) {
			kept = over
		}
		r := filled(t, 3, 12, at(10, v), at(11, n(top-1)), at(12, n(-top+1)))
		holds(t, "with it", r, []api.Sample{at(10, kept), at(11, n(top-1)), at(12, n(-top+1))})
		r.Advance(13)
		holds(t, "without it", r, []api.Sample{at(11, n(top-1)), at(12, n(-top+1))})
		if r.Sum() != n(0) {
			t.Errorf("P12.3: %v is gone: %v", v, r.Sum())
		}
		if e := r.Add(at(13, n(9))); e != api.OK || r.Sum() != n(9) {
			t.Errorf("P12.3: %v is gone: %v, %v", v, e, r.Sum())
		}
		r.Advance(15)
		holds(t, "the last alone", r, []api.Sample{at(13, n(9))})
	}
	// A sum that had left the range comes back.
	r := filled(t, 2, 11, at(10, n(top)), at(11, n(top)))
	if r.Sum() != over {
		t.Errorf("P12.2: %v", r.Sum())
	}
	r.Advance(12)
	if avg, _ := r.Avg(); r.Sum() != n(top) || avg != n(top) {
		t.Errorf("P12.3: %v, %v", r.Sum(), avg)
	}
}

// TestWhatWasGone: a ring with a past tells what one without it does, from when the past is gone on.
func TestWhatWasGone(t *testing.T) {
	r := rand.New(rand.NewSource(123))
	for round := range 400 {
		window := 1 + r.Intn(105)
		old, young := New(window), New(window)
		now := 0
		for range r.Intn(300) {
			now += r.Intn(3)
			old.Advance(now)
			old.Add(at(now-r.Intn(2), value(r)))
		}
		now += min(window, 100) + r.Intn(3)
		old.Advance(now)
		young.Advance(now)
		for range 150 {
			s := at(now-r.Intn(4)+r.Intn(2), value(r))
			if e, f := old.Add(s), young.Add(s); e != f {
				t.Fatalf("P12.3: round %d: %v: %v with a past, %v without", round, s, e, f)
			}
			if told(old) != told(young) || !slices.Equal(old.All(), young.All()) {
				t.Fatalf("P12.3: round %d: %v with a past, %v without", round, old.All(), young.All())
			}
			now += r.Intn(3)
			old.Advance(now)
			young.Advance(now)
		}
	}
}

// Against the model.

// TestAllShortPasts: each row of a few calls, of narrow windows.
func TestAllShortPasts(t *testing.T) {
	calls := []func(p *pair){}
	for _, step := range []int{-1, 0, 1, 2, 3} {
		calls = append(calls, func(p *pair) { p.advance(t, p.m.now+step) })
	}
	for _, back := range []int{-1, 0, 1, 2, 3} {
		calls = append(calls, func(p *pair) { p.add(t, at(p.m.now-back, n(int64(len(p.trail))))) })
	}
	const long = 5
	pasts := 1
	for range long {
		pasts *= len(calls)
	}
	for window := 1; window <= 3; window++ {
		for past := range pasts {
			p := pairOf(window)
			for range long {
				calls[past%len(calls)](p)
				past /= len(calls)
			}
		}
	}
}

func TestRandomPasts(t *testing.T) {
	r := rand.New(rand.NewSource(121))
	for range 300 {
		p := pairOf(r.Intn(125) - 10)
		far := 1 + r.Intn(60)
		if r.Intn(5) == 0 {
			p.advance(t, api.MaxTime-r.Intn(200))
		}
		for range 250 {
			if r.Intn(3) == 0 {
				p.advance(t, p.m.now+r.Intn(far)-far/4)
			} else {
				p.add(t, at(p.m.now-r.Intn(1+r.Intn(far))+r.Intn(2), value(r)))
			}
			p.trail = p.trail[max(0, len(p.trail)-500):]
		}
	}
}

// What stands for each call.

// TestAnswersAreNew: what is done with one answer touches neither the ring nor another answer.
func TestAnswersAreNew(t *testing.T) {
	spoil := func(l []api.Sample) {
		for i := range l[:cap(l)] {
			l[:cap(l)][i] = at(-9, over)
		}
	}
	for _, window := range []int{1, 5, 100} {
		r := New(window)
		kept := [][]api.Sample{}
		for now := range 250 {
			r.Advance(now)
			r.Add(ticked(now, now)[0])
			want := ticked(max(0, now-window+1), now)
			spoil(r.All())
			spoil(append(r.All(), ticked(0, 5)...))
			holds(t, fmt.Sprint("spoilt at ", now), r, want)
			kept = append(kept, r.All())
		}
		for now, l := range kept {
			if want := ticked(max(0, now-window+1), now); !slices.Equal(l, want) {
				t.Fatalf("P12.1: an earlier answer: %v, for %v", l, want)
			}
			spoil(l)
		}
	}
}

// TestRingsAlone: what one is told the others don't hear of.
func TestRingsAlone(t *testing.T) {
	r := rand.New(rand.NewSource(122))
	pairs := []*pair{pairOf(5), pairOf(5), pairOf(100), pairOf(1), pairOf(30)}
	for range 3000 {
		p := pairs[r.Intn(len(pairs))]
		if r.Intn(2) == 0 {
			p.advance(t, p.m.now+r.Intn(3))
		} else {
			p.add(t, at(p.m.now-r.Intn(3), value(r)))
		}
		p.trail = p.trail[max(0, len(p.trail)-500):]
		for _, other := range pairs {
			holds(t, "beside others: "+other.trail, other.r, other.m.there())
		}
	}
}

// TestLongPast: far more samples than are ever there.
func TestLongPast(t *testing.T) {
	r := New(api.MaxRange)
	for now := range api.MaxTime + 1 {
		r.Advance(now)
		if e := r.Add(at(now, n(int64(now)))); e != api.OK {
			t.Fatalf("P12.1: %d: %v", now, e)
		}
		if r.Len() != min(now+1, 100) {
			t.Fatalf("P12.1: at %d there are %d", now, r.Len())
		}
	}
	if first, ok := r.First(); !ok || first != at(api.MaxTime-99, n(api.MaxTime-99)) || r.Sum() != n(100*api.MaxTime-4950) {
		t.Errorf("P12.2: %v, %v", first, r.Sum())
	}
}

func FuzzRing(f *testing.F) {
	f.Add(5, []byte{3, 1, 8, 2, 7, 200, 9, 255})
	f.Add(100, []byte{0, 1, 0, 1, 130, 60, 77, 254, 12, 3})
	f.Add(-1, []byte{255, 255, 128, 0, 2, 1})
	f.Fuzz(func(t *testing.T, window int, calls []byte) {
		p := pairOf(window)
		for i := 0; i+1 < len(calls) && i < 400; i += 2 {
			much := int(calls[i+1])
			switch what := int(calls[i]); {
			case what < 100:
				p.advance(t, p.m.now+much/8-2)
			case what == 100:
				p.advance(t, api.MaxTime+much-128)
			case what < 240:
				p.add(t, at(p.m.now-what%8+1, n(int64(much)-128)))
			default:
				p.add(t, at(p.m.now-what%3, value(rand.New(rand.NewSource(int64(much))))))
			}
		}
	})
}
