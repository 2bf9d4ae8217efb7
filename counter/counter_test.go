package counter

import (
	"fmt"
	"math"
	"math/rand"
	"slices"
	"testing"

	"spillway/api"
)

// P14.1: as ring's

func TestNew(t *testing.T) {
	for _, window := range []int{math.MinInt, -1, 0, 1, 5, api.MaxRange, math.MaxInt} {
		what := fmt.Sprint("window ", window)
		p := pairOf(window)
		p.is(t, what, answers{})
		// Now is 0.
		if e := p.add(t, at(1, n(1))); e != api.ErrTime {
			t.Errorf("P14.1: %s: 1 at 0: %v", what, e)
		}
		if e := p.add(t, at(0, n(1))); e != api.OK {
			t.Errorf("P14.1: %s: 0 at 0: %v", what, e)
		}
		p.is(t, what, answers{})
	}
}

// TestWidth: of all ticks up to now as many are taken as the window is wide, so many are there, and by so many is divided.
func TestWidth(t *testing.T) {
	for window, want := range map[int]int{
		math.MinInt: 1, math.MinInt32: 1, -100: 1, -1: 1, 0: 1, 1: 1, 2: 2, 3: 3, 50: 50, 99: 99,
		100: 100, 101: 100, 128: 100, 1000: 100, 1 << 32: 100, 1<<32 + 5: 100, math.MaxInt: 100,
	} {
		p := pairOf(window)
		p.advance(t, 1000)
		for _, s := range falling(0, 1001) {
			e := p.add(t, s)
			if isIn := s.T > 1000-want && s.T <= 1000; isIn != (e == api.OK) || !isIn && e != api.ErrTime {
				t.Fatalf("P14.1: window %d: %d at 1000: %v", window, s.T, e)
			}
		}
		// One by one they go.
		for gone := range want - 1 {
			p.advance(t, 1000+gone)
			l := falling(1001-want+gone, 1000)
			sum := int64(0)
			for _, s := range l[1:] {
				sum += s.V.N
			}
			p.is(t, fmt.Sprint("window ", window, " to ", 1000+gone), two(n(sum), n(sum/int64(want)), len(l)-1))
		}
		p.advance(t, 1000+want-1)
		p.is(t, fmt.Sprint("window ", window, ", one left"), answers{})
		p.advance(t, 1000+want)
		p.is(t, fmt.Sprint("window ", window, ", all gone"), answers{})
	}
}

// TestTime: now is the greatest that it was advanced to, MaxTime at most.
func TestTime(t *testing.T) {
	for _, c := range []struct {
		to   []int
		want int
	}{
		{nil, 0}, {[]int{0}, 0}, {[]int{-1}, 0}, {[]int{math.MinInt}, 0},
		{[]int{1}, 1}, {[]int{1, 1}, 1}, {[]int{1, 2, 3}, 3}, {[]int{7}, 7}, {[]int{7, 6}, 7}, {[]int{7, 0}, 7}, {[]int{7, -7}, 7}, {[]int{7, math.MinInt}, 7}, {[]int{7, 3, 9, 8}, 9},
		{[]int{999999}, 999999}, {[]int{api.MaxTime}, 1000000}, {[]int{api.MaxTime + 1}, 1000000}, {[]int{math.MaxInt}, 1000000}, {[]int{1 << 32}, 1000000}, {[]int{999999, api.MaxTime + 5}, 1000000}, {[]int{api.MaxTime, 5}, 1000000}, {[]int{api.MaxTime + 9, api.MaxTime - 1}, 1000000}, {[]int{math.MaxInt, math.MinInt}, 1000000},
	} {
		for _, probe := range []struct {
			t    int
			want api.Errno
		}{{c.want + 1, 152}, {c.want, 0}, {c.want - 4, 0}, {c.want - 5, 152}} {
			if probe.t < 0 {
				continue
			}
			p := pairOf(5)
			for _, now := range c.to {
				p.advance(t, now)
			}
			if e := p.add(t, at(probe.t, n(1))); e != probe.want {
				t.Errorf("P14.1: advanced to %v: %d: %v, for %v", c.to, probe.t, e, probe.want)
			}
		}
	}
}

// TestAdvanceForgets: what is at most now less the window is gone, and nothing else.
func TestAdvanceForgets(t *testing.T) {
	for _, c := range []struct {
		now  int
		want answers // of 50, 40, 30, 20, 11 at 21 to 25 in a window of 5
	}{
		{math.MinInt, two(n(101), n(20), 4)}, {-1, two(n(101), n(20), 4)}, {0, two(n(101), n(20), 4)}, {20, two(n(101), n(20), 4)}, {24, two(n(101), n(20), 4)}, {25, two(n(101), n(20), 4)},
		{26, two(n(61), n(12), 3)}, {27, two(n(31), n(6), 2)}, {28, two(n(11), n(2), 1)}, {29, answers{}}, {30, answers{}}, {31, answers{}}, {35, answers{}},
		{500, answers{}}, {api.MaxTime - 1, answers{}}, {api.MaxTime, answers{}}, {api.MaxTime + 1, answers{}}, {math.MaxInt, answers{}},
	} {
		p := filled(t, 5, 25, at(21, n(50)), at(22, n(40)), at(23, n(30)), at(24, n(20)), at(25, n(11)))
		p.advance(t, c.now)
		p.is(t, fmt.Sprint("to ", c.now), c.want)
	}
	// Between them there may be gaps; several may go at once.
	for now, want := range map[int]answers{29: two(n(50), n(5), 2), 30: two(n(20), n(2), 1), 32: two(n(20), n(2), 1), 33: {}, 38: {}, 39: {}} {
		p := filled(t, 10, now, at(20, n(40)), at(23, n(30)), at(29, n(20)))
		p.is(t, fmt.Sprint("gaps at ", now), want)
	}
	// What was one alone is the one ahead of the next; what is gone is ahead of none.
	for now, want := range map[int]answers{38: two(n(80), n(8), 0), 39: {}} {
		p := filled(t, 10, now, at(20, n(40)), at(23, n(30)), at(29, n(20)))
		p.add(t, at(now, n(100)))
		p.is(t, fmt.Sprint("another at ", now), want)
	}
	// At 0 too; and time that is held at MaxTime takes nothing more away.
	for now, want := range map[int]answers{1: two(n(9), n(3), 0), 2: two(n(9), n(3), 0), 3: {}} {
		p := filled(t, 3, 1, at(0, n(1)), at(1, n(10)))
		p.advance(t, now)
		p.is(t, fmt.Sprint("0 at ", now), want)
	}
	last := filled(t, 4, api.MaxTime, at(api.MaxTime-3, n(40)), at(api.MaxTime, n(20)))
	for _, now := range []int{api.MaxTime, api.MaxTime + 1, api.MaxTime + 100, math.MaxInt} {
		last.advance(t, now)
		last.is(t, fmt.Sprint("to ", now), two(n(20), n(5), 1))
	}
}

func TestAdd(t *testing.T) {
	for _, c := range []struct {
		what        string
		window, now int
		there       []api.Sample // added when they were new
		t           int
		want        api.Errno
	}{
		{"above now", 5, 20, nil, 21, 152}, {"far above now", 5, 20, nil, math.MaxInt, 152}, {"above MaxTime", 5, api.MaxTime, nil, api.MaxTime + 1, 152}, {"above what now was held at", 5, api.MaxTime + 50, nil, api.MaxTime + 1, 152},
		{"at now", 5, 20, nil, 20, 0}, {"at now, of 1", 1, 20, nil, 20, 0}, {"at MaxTime", 5, api.MaxTime + 50, nil, api.MaxTime, 0},
		{"at now less the window", 5, 20, nil, 15, 152}, {"at now less 1", 1, 20, nil, 19, 152}, {"at now less MaxRange", 100, 200, nil, 100, 152}, {"at now less what MaxRange holds", 150, 200, nil, 100, 152}, {"below that", 5, 20, nil, 14, 152}, {"far below that", 5, 20, nil, 0, 152},
		{"one above it", 5, 20, nil, 16, 0}, {"one above MaxRange", 100, 200, nil, 101, 0}, {"one above what MaxRange holds", 150, 200, nil, 101, 0},
		{"below 0", 5, 0, nil, -1, 152}, {"below 0, in the window", 5, 2, nil, -2, 152}, {"below 0, at now less the window", 5, 2, nil, -3, 152}, {"far below 0", 100, 3, nil, math.MinInt, 152}, {"at 0, in the window", 5, 2, nil, 0, 0}, {"at 0, at now less the window", 5, 5, nil, 0, 152}, {"at 0, one above it", 5, 4, nil, 0, 0},
		// The last one that was added is there.
		{"at the last one", 5, 20, falling(18, 18), 18, 150}, {"below the last one", 5, 20, falling(18, 18), 17, 150}, {"below the last one, the least", 5, 20, falling(18, 18), 16, 150}, {"between two", 5, 20, []api.Sample{at(16, n(1)), at(19, n(2))}, 17, 150}, {"at the first of two", 5, 20, falling(16, 17), 16, 150},
		{"above the last one", 5, 20, falling(18, 18), 19, 0}, {"far above the last one", 5, 20, falling(16, 16), 20, 0}, {"above the last one of many", 5, 20, falling(16, 19), 20, 0},
		{"at the last one, at now", 5, 20, falling(20, 20), 20, 150}, {"at the last one, of 1", 1, 20, falling(20, 20), 20, 150}, {"at the last one, at 0", 5, 0, falling(0, 0), 0, 150}, {"at the last one, at MaxTime", 5, api.MaxTime, falling(api.MaxTime, api.MaxTime), api.MaxTime, 150},
		// It isn't newer, and it is out of the window: the window comes first.
		{"both, at now less the window", 5, 20, falling(18, 18), 15, 152}, {"both, below 0", 5, 2, falling(1, 1), -1, 152}, {"both, far below", 5, 20, falling(20, 20), math.MinInt, 152}, {"newer, but above now", 5, 20, falling(20, 20), 21, 152},
		// It is gone.
		{"at one that is gone", 5, 25, falling(20, 20), 20, 152}, {"below one that is gone", 5, 25, falling(20, 20), 19, 152}, {"above one that is gone", 5, 25, falling(20, 20), 21, 0}, {"at now, above one that is gone", 5, 25, falling(20, 20), 25, 0}, {"above one that is gone, but out", 5, 26, falling(20, 20), 21, 152}, {"at one that is long gone", 5, 500, falling(16, 20), 20, 152}, {"in the window, long behind it", 5, 500, falling(16, 20), 496, 0},
		{"at one that isn't gone yet", 5, 24, falling(20, 20), 20, 150}, {"at the first, that is gone", 5, 24, falling(18, 20), 18, 152}, {"at the second, that isn't the last", 5, 22, falling(17, 20), 18, 150},
	} {
		p := filled(t, c.window, c.now, c.there...)
		was := p.m.there()
		e := p.add(t, at(c.t, n(77)))
		if e != c.want {
			t.Errorf("P14.1: %s: %v, for %v", c.what, e, c.want)
		}
		if e == api.OK {
			was = append(was, at(c.t, n(77)))
		}
		p.hold(t, was)
	}
}

// TestRefusedChangesNothing: what is refused neither adds anything, nor counts as the last one, nor is in anything's way.
func TestRefusedChangesNothing(t *testing.T) {
	for _, v := range []api.Num{over, n(top), n(5), n(-top), {N: math.MinInt64}} {
		p := filled(t, 5, 20, at(16, n(5)), at(17, n(9)))
		for _, bad := range []int{math.MinInt, -1, 0, 15, 16, 17, 21, 25, math.MaxInt} {
			if e := p.add(t, at(bad, v)); e == api.OK {
				t.Errorf("P14.1: %d was taken", bad)
			}
			p.is(t, fmt.Sprint("refused: ", bad), two(n(4), n(0), 0))
		}
		for next := 18; next <= 20; next++ {
			if e := p.add(t, at(next, n(int64(next)))); e != api.OK {
				t.Errorf("P14.1: %d: %v", next, e)
			}
		}
		if e := p.add(t, at(21, n(30))); e != api.ErrTime {
			t.Errorf("P14.1: 21 at 20: %v", e)
		}
		p.is(t, "at 20", two(n(15), n(3), 0))
		p.advance(t, 21)
		if e := p.add(t, at(21, n(30))); e != api.OK {
			t.Errorf("P14.1: 21 at 21: %v", e)
		}
		p.is(t, "at 21", two(n(21), n(4), 0))
	}
}

// P14.1: Of; P14.2: the same of the samples in the window

// byHand: what these values rose by, and how many resets there are.
type byHand struct {
	values []api.Num
	rose   api.Num
	resets int
}

func handmade() []byHand {
	return []byHand{
		{[]api.Num{n(5000000), n(7000000), n(1000000)}, n(3000000), 1},
		// Rising, equal, falling.
		{[]api.Num{n(0), n(10)}, n(10), 0}, {[]api.Num{n(3), n(10)}, n(7), 0}, {[]api.Num{n(1), n(2), n(4), n(8)}, n(7), 0},
		{[]api.Num{n(0), n(0)}, n(0), 0}, {[]api.Num{n(5), n(5)}, n(0), 0}, {[]api.Num{n(5), n(5), n(5), n(5)}, n(0), 0}, {[]api.Num{n(5), n(5), n(6), n(6)}, n(1), 0},
		{[]api.Num{n(10), n(3)}, n(3), 1}, {[]api.Num{n(10), n(0)}, n(0), 1}, {[]api.Num{n(8), n(4), n(2), n(1)}, n(7), 3}, {[]api.Num{n(3), n(2), n(1), n(0)}, n(3), 3},
		// Just below the one ahead of it, equal, just above it.
		{[]api.Num{n(100), n(99)}, n(99), 1}, {[]api.Num{n(100), n(100)}, n(0), 0}, {[]api.Num{n(100), n(101)}, n(1), 0},
		{[]api.Num{n(0), n(-1)}, n(-1), 1}, {[]api.Num{n(0), n(1)}, n(1), 0}, {[]api.Num{n(-1), n(0)}, n(1), 0},
		{[]api.Num{n(top), n(top - 1)}, n(top - 1), 1}, {[]api.Num{n(top), n(top)}, n(0), 0}, {[]api.Num{n(top - 1), n(top)}, n(1), 0},
		{[]api.Num{n(1 - top), n(-top)}, n(-top), 1}, {[]api.Num{n(-top), n(-top)}, n(0), 0}, {[]api.Num{n(-top), n(1 - top)}, n(1), 0},
		// Below 0.
		{[]api.Num{n(-5), n(-7)}, n(-7), 1}, {[]api.Num{n(-7), n(-5)}, n(2), 0}, {[]api.Num{n(-5), n(-5)}, n(0), 0}, {[]api.Num{n(-3), n(4)}, n(7), 0}, {[]api.Num{n(4), n(-3)}, n(-3), 1}, {[]api.Num{n(4), n(-3), n(4)}, n(4), 1}, {[]api.Num{n(-1), n(-2), n(-3)}, n(-5), 2},
		// A reset at the beginning, at the end, several of them, one behind the other and apart.
		{[]api.Num{n(9), n(1), n(5), n(6)}, n(6), 1}, {[]api.Num{n(1), n(5), n(9), n(2)}, n(10), 1}, {[]api.Num{n(9), n(1), n(5), n(2)}, n(7), 2}, {[]api.Num{n(1), n(9), n(2), n(9), n(3), n(9)}, n(26), 2}, {[]api.Num{n(1), n(9), n(4), n(2), n(9)}, n(21), 2}, {[]api.Num{n(1), n(0), n(1), n(0), n(1)}, n(2), 2}, {[]api.Num{n(9), n(0), n(0), n(3)}, n(3), 1},
		// Behind a reset what is ahead counts, not the greatest one so far.
		{[]api.Num{n(9), n(1), n(3)}, n(3), 1}, {[]api.Num{n(9), n(3), n(1), n(3)}, n(6), 2}, {[]api.Num{n(9), n(5), n(7), n(6)}, n(13), 2},
		// Beyond what a number can be, at the end.
		{[]api.Num{n(0), n(top)}, n(top), 0}, {[]api.Num{n(0), n(top), n(0)}, n(top), 1}, {[]api.Num{n(0), n(top), n(1)}, over, 1}, {[]api.Num{n(1), n(top), n(1)}, n(top), 1}, {[]api.Num{n(0), n(top), n(0), n(1)}, over, 1}, {[]api.Num{n(top), n(top - 1), n(0), n(1)}, n(top), 2}, {[]api.Num{n(0), n(top), n(0), n(top)}, over, 1},
		{[]api.Num{n(0), n(-top)}, n(-top), 1}, {[]api.Num{n(0), n(-1), n(-top)}, over, 2}, {[]api.Num{n(-1), n(0), n(-1), n(-top)}, n(-top), 2}, {[]api.Num{n(2), n(-1), n(0), n(-top)}, n(-top), 2}, {[]api.Num{n(-2), n(-1), n(-2), n(-top)}, over, 2},
		// What one adds may be none at all: it is overflow then, and nothing brings it back.
		{[]api.Num{n(-1), n(top)}, over, 0}, {[]api.Num{n(-1), n(top - 1)}, n(top), 0}, {[]api.Num{n(-top), n(0)}, n(top), 0}, {[]api.Num{n(-top), n(1)}, over, 0}, {[]api.Num{n(-top), n(top)}, over, 0}, {[]api.Num{n(-1), n(top), n(-top)}, over, 1}, {[]api.Num{n(-1), n(-top), n(1)}, over, 1}, {[]api.Num{n(top), n(-top)}, n(-top), 1},
		// Beyond it on the way, and back.
		{[]api.Num{n(0), n(top), n(-3), n(2), n(-10)}, n(top - 8), 2}, {[]api.Num{n(0), n(top), n(5), n(-6)}, n(top - 1), 2}, {[]api.Num{n(0), n(top), n(5), n(-5)}, n(top), 2}, {[]api.Num{n(0), n(top), n(5), n(-4)}, over, 2}, {[]api.Num{n(0), n(-top), n(-1), n(-2)}, n(-3), 2}, {[]api.Num{n(0), n(-5), n(-top), n(-1)}, n(-6), 2},
		// Overflow is above all others, and the same as itself: first, last, among others.
		{[]api.Num{over, n(2)}, n(2), 1}, {[]api.Num{over, n(-2)}, n(-2), 1}, {[]api.Num{over, n(0)}, n(0), 1}, {[]api.Num{over, n(top)}, n(top), 1}, {[]api.Num{over, n(-top)}, n(-top), 1}, {[]api.Num{over, n(2), n(5), n(1)}, n(6), 2},
		{[]api.Num{n(2), over}, over, 0}, {[]api.Num{n(-top), over}, over, 0}, {[]api.Num{n(top), over}, over, 0}, {[]api.Num{n(2), n(5), n(1), over}, over, 1},
		{[]api.Num{over, over}, over, 0}, {[]api.Num{over, over, n(1)}, over, 1}, {[]api.Num{over, n(1), over}, over, 1}, {[]api.Num{n(1), over, n(2)}, over, 1}, {[]api.Num{n(5), over, n(2), n(1)}, over, 2}, {[]api.Num{n(1), over, over, n(2)}, over, 1}, {[]api.Num{over, n(1), over, n(1), n(0)}, over, 3},
	}
}

func TestByHand(t *testing.T) {
	for _, c := range handmade() {
		l := samples(c.values...)
		if got, ok := Of(l...); got != c.rose || !ok {
			t.Errorf("P14.1: Of %v: %v %v, for %v", c.values, got, ok, c.rose)
		}
		p := valued(t, c.values...)
		p.is(t, fmt.Sprint(c.values), two(c.rose, quotient(c.rose, 100), c.resets))
		// The widest window divides by 100, a window as wide as there are samples by so many.
		p = filled(t, len(l), len(l), l...)
		p.is(t, fmt.Sprint(c.values), two(c.rose, quotient(c.rose, len(l)), c.resets))
	}
}

// TestFewerThanTwo: they tell nothing, whatever the one is.
func TestFewerThanTwo(t *testing.T) {
	for _, l := range [][]api.Sample{nil, {}} {
		if got, ok := Of(l...); got != (api.Num{}) || ok {
			t.Errorf("P14.1: Of none: %v %v", got, ok)
		}
	}
	if got, ok := Of(); got != (api.Num{}) || ok {
		t.Errorf("P14.1: Of none: %v %v", got, ok)
	}
	for _, v := range append(strange(), over, n(0), n(7), n(-7), n(top), n(-top)) {
		for _, time := range []int{0, 1, 5, -1, math.MinInt, math.MaxInt} {
			if got, ok := Of(at(time, v)); got != (api.Num{}) || ok {
				t.Errorf("P14.1: Of %v: %v %v", v, got, ok)
			}
		}
		valued(t, v).is(t, fmt.Sprint("one: ", v), answers{})
		filled(t, 1, 4, at(3, n(9)), at(4, v)).is(t, fmt.Sprint("one is left: ", v), answers{})
		filled(t, 5, 9, at(1, n(9)), at(2, v)).is(t, "none is left", answers{})
	}
}

// TestOfTakesAnyTimes: samples are taken in the order in which they are handed over, whatever their times.
func TestOfTakesAnyTimes(t *testing.T) {
	r := rand.New(rand.NewSource(141))
	times := []int{math.MinInt, -5, -1, 0, 1, 2, api.MaxTime, api.MaxTime + 1, math.MaxInt}
	for _, c := range handmade() {
		for range 20 {
			l := samples(c.values...)
			for i := range l {
				l[i].T = times[r.Intn(len(times))]
			}
			if got, ok := Of(l...); got != c.rose || !ok {
				t.Errorf("P14.1: Of %v: %v %v, for %v", l, got, ok, c.rose)
			}
		}
	}
	if got, ok := Of(at(9, n(5)), at(3, n(7)), at(3, n(1))); got != n(3) || !ok {
		t.Errorf("P14.1: %v %v", got, ok)
	}
}

// TestStrangeValues: what isn't fix's Is counts, and is told, as overflow.
func TestStrangeValues(t *testing.T) {
	for _, v := range strange() {
		for _, c := range handmade() {
			l := slices.Clone(c.values)
			isChanged := false
			for i := range l {
				if l[i] == over {
					l[i] = v
					isChanged = true
				}
			}
			if !isChanged {
				continue
			}
			if got, ok := Of(samples(l...)...); got != c.rose || !ok {
				t.Errorf("P14.1: Of %v: %v %v, for %v", l, got, ok, c.rose)
			}
			valued(t, l...).is(t, fmt.Sprint(l), two(c.rose, quotient(c.rose, 100), c.resets))
		}
		for _, w := range append(strange(), over) {
			valued(t, v, w).is(t, fmt.Sprint(v, " ahead of ", w), two(over, over, 0))
		}
		// An error comes as of any other value.
		p := filled(t, 5, 20, at(17, n(1)), at(18, n(6)))
		for t0, want := range map[int]api.Errno{21: 152, 15: 152, -1: 152, 18: 150, 16: 150} {
			if e := p.add(t, at(t0, v)); e != want {
				t.Errorf("P14.1: %v at %d: %v, for %v", v, t0, e, want)
			}
		}
		p.is(t, fmt.Sprint("refused: ", v), two(n(5), n(1), 0))
	}
}

// TestManyInOf: far more samples than a window has.
func TestManyInOf(t *testing.T) {
	for _, many := range []int{99, 100, 101, 128, 1000, 100000} {
		rising, equal, falling, zigzag := []api.Num{}, []api.Num{}, []api.Num{}, []api.Num{}
		for i := range int64(many) {
			rising = append(rising, n(3*i-50))
			equal = append(equal, n(6))
			falling = append(falling, n(int64(many)-i))
			zigzag = append(zigzag, n(5+4*(i%2)))
		}
		k := int64(many)
		for _, c := range []struct {
			values []api.Num
			want   int64
		}{{rising, 3 * (k - 1)}, {equal, 0}, {falling, k * (k - 1) / 2}, {zigzag, 4*(k/2) + 5*((k-1)/2)}} {
			if got, ok := Of(samples(c.values...)...); got != n(c.want) || !ok {
				t.Errorf("P14.1: Of %d: %v %v, for %d", many, got, ok, c.want)
			}
		}
	}
}

// TestAllShortRows: each row of up to five of these values, alone and as it goes out of the window.
func TestAllShortRows(t *testing.T) {
	values := []api.Num{n(-1), n(0), n(1), n(2), n(-top), n(top), over, {N: math.MinInt64}}
	for long := range 6 {
		for row := range 1 << (3 * long) {
			l := []api.Num{}
			for i := range long {
				l = append(l, values[row>>(3*i)&7])
			}
			s := samples(l...)
			want := wanted(100, s)
			if got, ok := Of(s...); got != want.increase || ok != want.isRisen {
				t.Fatalf("P14.1: Of %v: %v %v, for %v %v", l, got, ok, want.increase, want.isRisen)
			}
			if long > 4 {
				continue
			}
			p := filled(t, 4, long, s...)
			for now := long; now <= long+4; now++ {
				p.advance(t, now)
			}
			p.is(t, "all gone", answers{})
		}
	}
}

// TestRate: by the window's width, however many samples there are; cut off towards nought.
func TestRate(t *testing.T) {
	for _, c := range []struct {
		window      int
		first, last int64
		want        int64
	}{
		{2, 0, 4, 2}, {2, 0, 5, 2}, {2, 0, 1, 0}, {3, 0, 8, 2}, {3, 0, 9, 3}, {3, 0, 10, 3}, {7, 0, 1000000, 142857}, {7, 1000000, 2000000, 142857},
		{100, 0, 99, 0}, {100, 0, 100, 1}, {100, 0, 199, 1}, {100, 0, 12345678, 123456}, {101, 0, 1010, 10}, {1000, 0, 1000, 10}, {math.MaxInt, 0, 1000, 10},
		{2, 5, -5, -2}, {2, 5, -4, -2}, {2, 5, -1, 0}, {3, 5, -8, -2}, {3, 5, -10, -3}, {100, 5, -199, -1},
		{2, 0, top, top / 2}, {100, 0, top, top / 100}, {2, 0, -top, -(top / 2)}, {3, 7, 7, 0}, {3, 0, 0, 0},
	} {
		p := filled(t, c.window, 1, at(0, n(c.first)), at(1, n(c.last)))
		if got, ok := p.c.Rate(); got != n(c.want) || !ok {
			t.Errorf("P14.2: window %d of %d and %d: %v %v, for %d", c.window, c.first, c.last, got, ok, c.want)
		}
	}
	// The times of the samples play no part, nor how many there are.
	for _, l := range [][]api.Sample{
		{at(91, n(10)), at(92, n(110))}, {at(91, n(10)), at(100, n(110))}, {at(99, n(10)), at(100, n(110))}, {at(91, n(10)), at(95, n(50)), at(96, n(60)), at(100, n(110))},
	} {
		filled(t, 10, 100, l...).is(t, fmt.Sprint(l), two(n(100), n(10), 0))
	}
	// What is overflow stays that.
	for _, l := range [][]api.Num{{n(1), over}, {over, over}, {n(-top), n(top)}, {n(0), n(top), n(1)}} {
		p := valued(t, l...)
		if got, ok := p.c.Rate(); got != over || !ok {
			t.Errorf("P14.2: %v: %v %v", l, got, ok)
		}
	}
}

// TestFullWindow: as many samples as there can be, of narrow windows and of wide ones.
func TestFullWindow(t *testing.T) {
	for _, window := range []int{2, 3, 7, 50, 99, 100, 120} {
		width := min(window, 100)
		rising, equal, falling := pairOf(window), pairOf(window), pairOf(window)
		for now := range 350 {
			for p, v := range map[*pair]int64{rising: int64(now) * 200, equal: 4, falling: 1000 - int64(now)} {
				p.advance(t, now)
				p.add(t, at(now, n(v)))
			}
			first := max(0, now-width+1)
			if first == now {
				continue
			}
			what, steps := fmt.Sprint("window ", window, " at ", now), int64(now-first)
			rising.is(t, what, two(n(200*steps), n(200*steps/int64(width)), 0))
			equal.is(t, what, two(n(0), n(0), 0))
			// From 1000 less first less 1 down to 1000 less now.
			sum := steps * (2000 - int64(first) - 1 - int64(now)) / 2
			falling.is(t, what, two(n(sum), n(sum/int64(width)), int(steps)))
		}
	}
}

// TestWhatGoes: with a sample goes what it added, and what the next one added to it.
func TestWhatGoes(t *testing.T) {
	for _, c := range []struct {
		values []api.Num // at 1, 2, .. in a window of as many
		left   []byHand  // when 0, 1, 2 .. of them are gone, while two are left
	}{
		// The sample ahead of a reset goes, and with it the reset.
		{[]api.Num{n(9), n(2), n(6)}, []byHand{{rose: n(6), resets: 1}, {rose: n(4)}}},
		{[]api.Num{n(3), n(9), n(2), n(6)}, []byHand{{rose: n(12), resets: 1}, {rose: n(6), resets: 1}, {rose: n(4)}}},
		{[]api.Num{n(9), n(4), n(2), n(1)}, []byHand{{rose: n(7), resets: 3}, {rose: n(3), resets: 2}, {rose: n(1), resets: 1}}},
		{[]api.Num{n(1), n(2), n(9), n(4)}, []byHand{{rose: n(12), resets: 1}, {rose: n(11), resets: 1}, {rose: n(4), resets: 1}}},
		{[]api.Num{n(7), n(7), n(3), n(7), n(3), n(3)}, []byHand{{rose: n(10), resets: 2}, {rose: n(10), resets: 2}, {rose: n(7), resets: 1}, {rose: n(3), resets: 1}, {rose: n(0)}}},
		{[]api.Num{n(5), n(-7), n(-7), n(0)}, []byHand{{rose: n(0), resets: 1}, {rose: n(7)}, {rose: n(7)}}},
		// Overflow goes.
		{[]api.Num{over, n(2), n(6)}, []byHand{{rose: n(6), resets: 1}, {rose: n(4)}}},
		{[]api.Num{n(1), over, n(2), n(6)}, []byHand{{rose: over, resets: 1}, {rose: n(6), resets: 1}, {rose: n(4)}}},
		{[]api.Num{over, over, n(2), n(6)}, []byHand{{rose: over, resets: 1}, {rose: n(6), resets: 1}, {rose: n(4)}}},
		{[]api.Num{n(1), n(2), over}, []byHand{{rose: over}, {rose: over}}},
		{[]api.Num{over, n(2), over, n(1), n(1)}, []byHand{{rose: over, resets: 2}, {rose: over, resets: 1}, {rose: n(1), resets: 1}, {rose: n(0)}}},
		// So does what was beyond a number.
		{[]api.Num{n(-top), n(top), n(3), n(8)}, []byHand{{rose: over, resets: 1}, {rose: n(8), resets: 1}, {rose: n(5)}}},
		{[]api.Num{n(0), n(top), n(1), n(3)}, []byHand{{rose: over, resets: 1}, {rose: n(3), resets: 1}, {rose: n(2)}}},
		{[]api.Num{n(0), n(-5), n(-top), n(-top)}, []byHand{{rose: over, resets: 2}, {rose: n(-top), resets: 1}, {rose: n(0)}}},
	} {
		width := len(c.values)
		p := filled(t, width, width, samples(c.values...)...)
		for gone, want := range c.left {
			p.advance(t, width+gone)
			p.is(t, fmt.Sprint(gone, " of ", c.values, " gone"), two(want.rose, quotient(want.rose, width), want.resets))
		}
		for gone := width - 1; gone <= width+1; gone++ {
			p.advance(t, width+gone)
			p.is(t, fmt.Sprint(gone, " of ", c.values, " gone"), answers{})
		}
	}
}

// P14.3

// TestResetLosesNothing: a counter that counts things up from nought, and begins anew now and then right behind a sample, tells how many things there were since the first sample.
func TestResetLosesNothing(t *testing.T) {
	r := rand.New(rand.NewSource(142))
	for round := range 2000 {
		value, things, resets := int64(r.Intn(1000)), int64(0), 0
		p := pairOf(100)
		p.add(t, at(0, n(value)))
		for now := 1; now < 2+r.Intn(90); now++ {
			more := int64(r.Intn(50))
			if more < value && r.Intn(4) == 0 {
				value = 0
				resets++
			}
			value += more
			things += more
			p.advance(t, now)
			p.add(t, at(now, n(value)))
		}
		if got, ok := p.c.Increase(); got != n(things) || !ok || p.c.Resets() != resets {
			t.Fatalf("P14.3: round %d: %s: %v %v and %d resets, for %d and %d", round, p.trail, got, ok, p.c.Resets(), things, resets)
		}
	}
}

// TestResetByHand: behind a reset all counts from nought on, however far the counter had come.
func TestResetByHand(t *testing.T) {
	for _, far := range []api.Num{n(7), n(1000), n(top), over} {
		for _, c := range []struct {
			behind []api.Num
			want   int64
		}{
			{[]api.Num{n(6)}, 6}, {[]api.Num{n(0)}, 0}, {[]api.Num{n(0), n(6)}, 6}, {[]api.Num{n(1), n(6)}, 6}, {[]api.Num{n(6), n(6)}, 6}, {[]api.Num{n(6), n(9)}, 9}, {[]api.Num{n(2), n(3), n(40)}, 40},
			{[]api.Num{n(6), n(5)}, 11}, {[]api.Num{n(6), n(0)}, 6}, {[]api.Num{n(1), n(6), n(5), n(8)}, 14},
		} {
			l := samples(append([]api.Num{far}, c.behind...)...)
			if got, ok := Of(l...); got != n(c.want) || !ok {
				t.Errorf("P14.3: %v behind %v: %v %v, for %d", c.behind, far, got, ok, c.want)
			}
			p := valued(t, append([]api.Num{far}, c.behind...)...)
			if got, ok := p.c.Increase(); got != n(c.want) || !ok {
				t.Errorf("P14.3: %v behind %v: %v %v, for %d", c.behind, far, got, ok, c.want)
			}
		}
	}
}

// TestRunsTogether: what the runs between resets rose by, and what each but the first one begins with, is what all rose by.
func TestRunsTogether(t *testing.T) {
	r := rand.New(rand.NewSource(143))
	for range 3000 {
		all, total := []api.Sample{}, int64(0)
		for run := range 1 + r.Intn(5) {
			v := int64(r.Intn(1000))
			if run > 0 {
				v = min(v, all[len(all)-1].V.N-1) // it begins anew below the one ahead of it
				total += v
			}
			part := []api.Sample{at(len(all), n(v))}
			for range r.Intn(6) {
				v += int64(r.Intn(300))
				part = append(part, at(len(all)+len(part), n(v)))
			}
			all = append(all, part...)
			rose, ok := Of(part...)
			if ok != (len(part) > 1) {
				t.Fatalf("P14.1: Of %v: %v", part, ok)
			}
			total += rose.N
		}
		if got, ok := Of(all...); got != n(total) || ok != (len(all) > 1) {
			t.Fatalf("P14.3: Of %v: %v %v, for %d", all, got, ok, total)
		}
	}
}

// Against the model.

// TestAllShortPasts: each row of a few calls, of narrow windows.
func TestAllShortPasts(t *testing.T) {
	calls := []func(p *pair){}
	for _, step := range []int{-1, 0, 1, 2, 3} {
		calls = append(calls, func(p *pair) { p.advance(t, p.m.now+step) })
	}
	for back := -1; back <= 2; back++ {
		for _, v := range []api.Num{n(2), n(5), over} {
			calls = append(calls, func(p *pair) { p.add(t, at(p.m.now-back, v)) })
		}
	}
	const long = 4
	pasts := 1
	for range long {
		pasts *= len(calls)
	}
	for window := 1; window <= 3; window++ {
		for past := range pasts {
			p := pairOf(window)
			for range long {
				calls[past%len(calls)](p)
				past /= len(calls)
			}
		}
	}
}

func TestRandomPasts(t *testing.T) {
	r := rand.New(rand.NewSource(144))
	for range 300 {
		p := pairOf(r.Intn(125) - 10)
		far := 1 + r.Intn(60)
		if r.Intn(5) == 0 {
			p.advance(t, api.MaxTime-r.Intn(200))
		}
		for range 250 {
			if r.Intn(3) == 0 {
				p.advance(t, p.m.now+r.Intn(far)-far/4)
			} else {
				p.add(t, at(p.m.now-r.Intn(1+r.Intn(far))+r.Intn(2), value(r)))
			}
			l := p.m.there()
			of, ok := Of(l...)
			if increase, is := p.c.Increase(); of != increase || ok != is {
				t.Fatalf("P14.2: %s: %v %v, where Of %v is %v %v", p.trail, increase, is, l, of, ok)
			}
		}
	}
}

// TestWhatWasGone: a counter with a past tells what one without it does, from when the past is gone on.
func TestWhatWasGone(t *testing.T) {
	r := rand.New(rand.NewSource(145))
	for range 300 {
		old, young := pairOf(1+r.Intn(105)), (*pair)(nil)
		for range r.Intn(200) {
			old.advance(t, old.m.now+r.Intn(3))
			old.add(t, at(old.m.now-r.Intn(2), value(r)))
		}
		old.advance(t, old.m.now+old.m.width+r.Intn(3))
		young = filled(t, old.m.width, old.m.now)
		for range 100 {
			s := at(old.m.now-r.Intn(4)+r.Intn(2), value(r))
			if e, f := old.add(t, s), young.add(t, s); e != f || told(old.c) != told(young.c) {
				t.Fatalf("P14.2: %s: %v and %+v with a past, %v and %+v without", old.trail, e, told(old.c), f, told(young.c))
			}
			now := old.m.now + r.Intn(3)
			old.advance(t, now)
			young.advance(t, now)
		}
	}
}

// What stands for each call.

// TestHandedInStays: neither the samples nor the spare room behind them are changed or kept.
func TestHandedInStays(t *testing.T) {
	r := rand.New(rand.NewSource(146))
	for range 2000 {
		room := make([]api.Sample, 1+r.Intn(12))
		for i := range room {
			room[i] = at(r.Intn(9)-4, value(r))
		}
		was := slices.Clone(room)
		from := r.Intn(len(room) + 1)
		to := from + r.Intn(len(room)-from+1)
		l := room[from:to]
		got, ok := Of(l...)
		if !slices.Equal(room, was) {
			t.Fatalf("P14.1: Of %v left %v", was, room)
		}
		// What is done with the list afterwards is done to none that was told.
		for i := range room {
			room[i] = at(-9, over)
		}
		if want := wanted(100, was[from:to]); got != want.increase || ok != want.isRisen {
			t.Fatalf("P14.1: Of %v: %v %v, for %v", was[from:to], got, ok, want)
		}
		if again, ok := Of(was[from:to]...); again != got || ok != (to-from > 1) {
			t.Fatalf("P14.1: Of %v: %v, and then %v", was[from:to], got, again)
		}
	}
}

// TestAlone: what one is told the others don't hear of.
func TestAlone(t *testing.T) {
	r := rand.New(rand.NewSource(147))
	l := []*pair{pairOf(5), pairOf(5), pairOf(100), pairOf(1), pairOf(30)}
	for range 3000 {
		p := l[r.Intn(len(l))]
		if r.Intn(2) == 0 {
			p.advance(t, p.m.now+r.Intn(3))
		} else {
			p.add(t, at(p.m.now-r.Intn(3), value(r)))
		}
		for _, other := range l {
			other.hold(t, other.m.there())
		}
	}
}

// TestLongPast: far more samples than are ever there.
func TestLongPast(t *testing.T) {
	c := New(api.MaxRange)
	for now := range api.MaxTime + 1 {
		c.Advance(now)
		// It counts up by 3 a tick, and begins anew each 250 ticks.
		if e := c.Add(at(now, n(int64(now%250)*3))); e != api.OK {
			t.Fatalf("P14.1: %d: %v", now, e)
		}
		if now < 99 || now%7 != 0 {
			continue
		}
		want := two(n(297), n(2), 0)
		if now%250 < 99 && now > 250 {
			want = two(n(294), n(2), 1)
		}
		if got := told(c); got != want {
			t.Fatalf("P14.2: at %d: %+v, for %+v", now, got, want)
		}
	}
}

func FuzzCounter(f *testing.F) {
	f.Add(5, []byte{3, 1, 8, 2, 7, 200, 9, 255})
	f.Add(100, []byte{0, 1, 0, 1, 130, 60, 77, 254, 12, 3})
	f.Add(-1, []byte{255, 255, 128, 0, 2, 1})
	f.Fuzz(func(t *testing.T, window int, calls []byte) {
		p := pairOf(window)
		for i := 0; i+1 < len(calls) && i < 400; i += 2 {
			much := int(calls[i+1])
			switch what := int(calls[i]); {
			case what < 100:
				p.advance(t, p.m.now+much/8-2)
			case what == 100:
				p.advance(t, api.MaxTime+much-128)
			case what < 240:
				p.add(t, at(p.m.now-what%8+1, n(int64(much)/16-8)))
			default:
				p.add(t, at(p.m.now-what%3, value(rand.New(rand.NewSource(int64(much))))))
			}
		}
	})
}
