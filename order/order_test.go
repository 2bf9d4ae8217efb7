package order

import (
	"fmt"
	"math"
	"math/rand"
	"slices"
	"strings"
	"testing"

	"spillway/api"
	"spillway/expr"
	"spillway/rules"
)

func TestDeps(t *testing.T) {
	for _, c := range []struct {
		rules string
		want  [][]int // of each rule
	}{
		{"", nil},
		{"a=1", [][]int{{}}},
		{"a=x", [][]int{{}}},
		{"a=a", [][]int{{0}}},
		{"b=a + 1;a=x", [][]int{{1}, {}}},
		{"a=b;b=a", [][]int{{1}, {0}}},
		{"a=1;b=2;c=b + a", [][]int{{}, {}, {0, 1}}},
		// Some are no rule's.
		{"a=x + c + y + b + z;b=y;c=b * q", [][]int{{1, 2}, {}, {1}}},
		// Several of one name.
		{"a=1;a=2;b=a", [][]int{{}, {}, {0, 1}}},
		{"a=1;b=a;a=2", [][]int{{}, {0, 2}, {}}},
		{"a=1;a=a;a=3", [][]int{{}, {0, 1, 2}, {}}},
		// Twice in one expression.
		{"a=1;b=a + a", [][]int{{}, {0}}},
		{"b=a + c * a - sum(rate(a[5t]));a=1;c=a - a;a=2", [][]int{{1, 2, 3}, {}, {1, 3}, {}}},
		// Wherever it stands.
		{"a=1;b=-a;c=(((a)));d=sum by (b) (a);e=rate(a[7t]);f=1 > a;g=x + on (c) a", [][]int{{}, {0}, {0}, {0}, {0}, {0}, {0}}},
		{`a=1;b=a{job="c"};c=a{x="a"}[5t];d={__name__="a"};e={__name__="a", x!="b"}`, [][]int{{}, {0}, {0}, {0}, {0}}},
		// What doesn't name one: other labels, other kinds, other places; groupings' names and functions.
		{`a=1;b={x="a"};c={__name__!="a"};d={__name__^="a"};e={__name__*="a"};f={x="y", __name__="a"};g={};h=x{__name__="a"}`, [][]int{{}, {}, {}, {}, {}, {}, {}, {}}},
		{`rate=1;sum=2;by=3;q=rate(x[5t]) + sum by (by) (x) + on (rate) x;r=rate + sum + by`, [][]int{{}, {}, {}, {}, {0, 1, 2}}},
		// Whole names, letter by letter.
		{"a=1;ab=2;A=3;b=aa + a_ + _a;c=A;d=ab", [][]int{{}, {}, {}, {}, {2}, {1}}},
	} {
		g := group(t, c.rules)
		for i := range g.Rules {
			if got := Deps(g, i); !slices.Equal(got, c.want[i]) {
				t.Errorf("P11.1: %s: %d leans on %v, for %v", c.rules, i, got, c.want[i])
			}
		}
		isAsModelled(t, api.Config{Groups: []api.Group{g}})
	}
}

func TestDepsOfNoPlace(t *testing.T) {
	for _, s := range []string{"", "a=a", "a=b;b=a", "a=a;a=a;a=a"} {
		g := group(t, s)
		n := len(g.Rules)
		for _, i := range []int{-1, -2, -n, -n - 1, n, n + 1, 2 * n, math.MinInt, math.MinInt + 1, math.MaxInt, math.MinInt32, math.MaxInt32, 1 << 32, -1 << 32} {
			if i >= 0 && i < n {
				continue
			}
			if got := Deps(g, i); len(got) != 0 {
				t.Errorf("P11.1: %q: %d leans on %v", s, i, got)
			}
		}
	}
	// A rule that lies in the room behind the list is none.
	g := group(t, "a=1;b=a;a=b")
	g.Rules = g.Rules[:1]
	if got := Deps(g, 1); len(got) != 0 {
		t.Errorf("P11.1: behind the last: %v", got)
	}
	h := group(t, "a=a;a=2")
	h.Rules = h.Rules[:1]
	if got := Deps(h, 0); !slices.Equal(got, []int{0}) {
		t.Errorf("P11.1: of the first: %v", got)
	}
}

const circle = "error 110"

func orderText(g api.Group) string {
	l, e := Order(g)
	if e != api.OK {
		return strings.TrimSuffix(e.Error()+fmt.Sprint(l), "[]")
	}
	return fmt.Sprint(l)
}

func TestOrder(t *testing.T) {
	for s, want := range map[string]string{
		"": "[]", "a=1": "[0]", "a=x": "[0]",
		// In order; in the other; mixed.
		"a=1;b=a;c=b": "[0 1 2]", "c=b;b=a;a=1": "[2 1 0]", "b=a + 1;a=x": "[1 0]", "d=c;c=b;b=a;a=1": "[3 2 1 0]", "b=a;c=b;a=1": "[2 0 1]", "c=b;a=1;b=a": "[1 2 0]",
		// Several that are free at once: the least.
		"a=1;b=2;c=3": "[0 1 2]", "c=3;b=2;a=1": "[0 1 2]", "a=x;b=x;c=x;d=x;e=x;f=x;g=x;h=x": "[0 1 2 3 4 5 6 7]",
		"c=a + b;b=a;a=1;d=1": "[2 1 0 3]", "b=a;c=a;a=1;d=2": "[2 0 1 3]", "b=a;d=2;c=a;a=1": "[1 3 0 2]", "b=e;c=d;d=1;e=2": "[2 1 3 0]", "b=d;c=e;d=1;e=2": "[2 0 3 1]", "h=g;g=1;f=e;e=1;d=c;c=1": "[1 0 3 2 5 4]", "c=f;b=f;a=f;d=a;e=c;f=1": "[5 0 1 2 3 4]",
		// Several of one name: all of them are waited for.
		"a=1;a=2;b=a": "[0 1 2]", "b=a;a=1;a=2": "[1 2 0]", "a=1;b=a;a=2": "[0 2 1]", "b=a;a=1;a=c;c=3;d=1": "[1 3 2 0 4]", "a=b;a=c;b=1;c=1": "[2 0 3 1]",
		// Twice in one expression.
		"b=a + a;a=1": "[1 0]", "c=a + b * a;b=-a - a;a=1": "[2 1 0]",
		// What is no rule's isn't waited for.
		"a=x + y;b=a + z": "[0 1]", "b=a + z;a=x + y": "[1 0]", `a={x="b"};b=a`: "[0 1]", `a={__name__!="b"};b=a`: "[0 1]", `a=x{__name__="b"};b=a`: "[0 1]",
		// Diamonds.
		"d=b + c;b=a;c=a;a=1": "[3 1 2 0]", "a=1;d=c + b;c=a;b=a": "[0 2 3 1]",
		// Circles.
		"a=a": circle, "a=1 - a": circle, "a=sum(rate(a[5t]))": circle, "a=b;b=a": circle, "a=b;b=c;c=a": circle, "a=c;b=a;c=b": circle, "a=b;b=c;c=d;d=e;e=f;f=g;g=h;h=a": circle,
		"a=1;a=a": circle, "a=a;a=1": circle, "a=b;a=1;b=a": circle, "b=a;a=1;a=b": circle,
		// Circles beside, behind, ahead of rules that come through.
		"a=1;b=a;c=c": circle, "c=c;a=1;b=a": circle, "a=1;b=c;c=d;d=b": circle, "a=1;b=a + c;c=b": circle, "a=1;b=2;c=a + b + d;d=c;e=1": circle, "c=a;a=a": circle, "a=b;b=a;c=1;d=c;e=d": circle, "a=a;b=b": circle,
	} {
		g := group(t, s)
		if got := orderText(g); got != want {
			t.Errorf("P11.2: %s: %s, for %s", s, got, want)
		}
		isAsModelled(t, api.Config{Groups: []api.Group{g}})
	}
}

// TestOrderOfEachGraph: of up to three rules, whoever leans on whom.
func TestOrderOfEachGraph(t *testing.T) {
	letters := []string{"a", "b", "c"}
	for n := range 4 {
		for mask := range 1 << (n * n) {
			g := api.Group{}
			for i := range n {
				parts := []api.Expr{{Kind: api.ENum}}
				for j := range n {
					if mask>>(i*n+j)&1 == 1 {
						parts = append(parts, selector(letters[j]))
					}
				}
				g.Rules = append(g.Rules, api.Rule{Record: letters[i], E: sum(parts...)})
			}
			isAsModelled(t, api.Config{Groups: []api.Group{g}})
			// The last one records what the first does.
			if n > 1 {
				g.Rules[n-1].Record = "a"
				isAsModelled(t, api.Config{Groups: []api.Group{g}})
			}
		}
	}
}

// TestOrderWithinTheGroup: what other groups record isn't leant on; other fields don't count.
func TestOrderWithinTheGroup(t *testing.T) {
	c := config(t, "a=b", "b=a", "c=a + b")
	if at, e := Check(c); at != 0 || e != api.OK {
		t.Errorf("P11.2: %d, %v", at, e)
	}
	for i, g := range c.Groups {
		if got := Deps(g, 0); len(got) != 0 {
			t.Errorf("P11.1: group %d: %v", i, got)
		}
	}
	isAsModelled(t, c)
	g := group(t, "b=a;a=x")
	for _, other := range []api.Group{{}, {Name: "a", Every: 5}, {Name: "no name", Every: -1}, {Every: math.MinInt}} {
		other.Rules = slices.Clone(g.Rules)
		for i := range other.Rules {
			other.Rules[i].Static = []api.Pair{{Name: "b", Value: "a"}, {Name: api.NameLabel, Value: "x"}}
			other.Rules[i].E.At = 77
		}
		if got := orderText(other); got != "[1 0]" {
			t.Errorf("P11.2: %v: %s", other, got)
		}
	}
}

func TestHorizon(t *testing.T) {
	for _, c := range []struct {
		groups []string
		want   int
	}{
		{nil, 10}, {[]string{""}, 10}, {[]string{"", "", ""}, 10}, {[]string{"a=1"}, 10}, {[]string{"a=x"}, 10},
		{[]string{"a=rate(x[1t])"}, 10}, {[]string{"a=rate(x[9t])"}, 10}, {[]string{"a=rate(x[10t])"}, 10}, {[]string{"a=rate(x[11t])"}, 11}, {[]string{"a=rate(x[99t])"}, 99}, {[]string{"a=rate(x[100t])"}, 100},
		{[]string{"a=1;b=rate(x[30t]);c=2"}, 30}, {[]string{"a=1;b=2;c=rate(x[30t])"}, 30}, {[]string{"a=rate(x[30t]);b=rate(x[20t]);c=rate(x[25t])"}, 30}, {[]string{"a=rate(x[20t]) + sum(-rate(y[40t])) > 1"}, 40},
		{[]string{"a=1", "b=rate(x[60t])"}, 60}, {[]string{"", "a=1;b=2", "c=1;d=rate(x[70t])"}, 70}, {[]string{"a=rate(x[70t])", "", "b=1"}, 70}, {[]string{"a=rate(x[70t])", "b=rate(x[50t])"}, 70}, {[]string{"a=rate(x[50t])", "b=rate(x[9t])", "c=rate(x[51t])"}, 51},
		// Circles look as far; so does what has no type.
		{[]string{"a=rate(a[80t])"}, 80}, {[]string{"a=b;b=a + rate(b[81t])"}, 81}, {[]string{"a=x[82t]"}, 82}, {[]string{"a=what(x[83t])"}, 83},
	} {
		d := config(t, c.groups...)
		if got := Horizon(d); got != c.want {
			t.Errorf("P11.2: %v: %d, for %d", c.groups, got, c.want)
		}
		isAsModelled(t, d)
	}
	for reach, want := range map[int]int{math.MinInt: 10, -1: 10, 0: 10, 101: 101, 1 << 40: 1 << 40, math.MaxInt: math.MaxInt} {
		c := api.Config{Groups: []api.Group{{Rules: []api.Rule{{E: api.Expr{Kind: api.ESel, Range: reach}}}}}}
		if got := Horizon(c); got != want {
			t.Errorf("P11.2: %d: %d", reach, got)
		}
		isAsModelled(t, c)
	}
	if got := Horizon(api.Config{Relabels: make([]api.Relabel, 50)}); got != 10 {
		t.Errorf("P11.2: of relabel rules: %d", got)
	}
}

func TestCheck(t *testing.T) {
	for _, c := range []struct {
		groups []string
		at     int
		why    api.Errno
	}{
		{nil, 0, 0}, {[]string{""}, 0, 0}, {[]string{"", "", ""}, 0, 0}, {[]string{"a=1"}, 0, 0}, {[]string{"b=a;a=1", "c=b", "c=1;d=c"}, 0, 0},
		{[]string{"a=a"}, 0, 110}, {[]string{"a=b;b=a"}, 0, 110}, {[]string{"a=1;b=b"}, 0, 110},
		{[]string{"a=a", "b=1", "c=1"}, 0, 110}, {[]string{"a=1", "b=b", "c=1"}, 1, 110}, {[]string{"a=1", "b=1", "c=c"}, 2, 110}, {[]string{"", "", "a=b;b=c;c=a"}, 2, 110}, {[]string{"", "a=a", ""}, 1, 110},
		{[]string{"a=a", "b=b", "c=c"}, 0, 110}, {[]string{"a=1", "b=b", "c=c"}, 1, 110}, {[]string{"a=a", "b=1", "c=c"}, 0, 110}, {[]string{"a=1;b=a", "b=a;a=b", "c=d;d=c"}, 1, 110},
		// More than may be read.
		{[]string{"a=1", "a=1", "a=1", "a=1", "a=1", "a=a", "a=1"}, 5, 110}, {[]string{"a=1", "a=1", "a=1", "a=1", "a=1", "a=1", "a=1"}, 0, 0},
	} {
		d := config(t, c.groups...)
		if at, e := Check(d); at != c.at || e != c.why {
			t.Errorf("P11.2: %q: %d and %v, for %d and %v", c.groups, at, e, c.at, c.why)
		}
		isAsModelled(t, d)
	}
}

// TestOfRuleFiles: what rules reads, as it is.
func TestOfRuleFiles(t *testing.T) {
	c, at, e := rules.Parse("keep job = \"a\"\ngroup g every 2\nrecord b{x=\"y\"} = a + 1\nrecord a = x\ngroup h every 3\nrecord c = sum(rate(c[70t]))\nrecord d = c\n")
	if e != api.OK {
		t.Fatalf("%d, %v", at, e)
	}
	if got := fmt.Sprint(orderText(c.Groups[0]), orderText(c.Groups[1]), Deps(c.Groups[0], 0), Deps(c.Groups[0], 1), Deps(c.Groups[1], 0), Deps(c.Groups[1], 1)); got != "[1 0]error 110[1] [] [0] [0]" {
		t.Errorf("P11.2: %s", got)
	}
	if at, e := Check(c); at != 1 || e != api.ErrCycle || Horizon(c) != 70 {
		t.Errorf("P11.2: %d, %v, %d", at, e, Horizon(c))
	}
	isAsModelled(t, c)
}

// TestWrongRules: what no file could have is taken too.
func TestWrongRules(t *testing.T) {
	for _, x := range []struct {
		record string
		e      api.Expr
		leans  bool // on itself
	}{
		{"", api.Expr{}, false}, {"a", api.Expr{}, false}, {"", selector(""), false}, {"9", selector("9"), false}, {"a b", selector("a b"), false}, {"é", selector("é"), false}, {"\xff", selector("\xff"), false}, {"a\n", selector("a\n"), false}, {"a", selector("a\x00"), false},
		{strings.Repeat("n", 20), selector(strings.Repeat("n", 20)), true}, {strings.Repeat("n", 21), selector(strings.Repeat("n", 21)), false}, {strings.Repeat("n", 1<<16), selector(strings.Repeat("n", 1<<16)), false},
		{"__name__", selector("__name__"), true}, {"_", selector("_"), true},
		{"a", api.Expr{Kind: 9, Kids: []api.Expr{selector("x"), selector("a"), {}}}, true}, {"a", api.Expr{Kind: -1, Kids: []api.Expr{selector("a")}}, true}, {"a", api.Expr{Kind: api.ENum, Kids: []api.Expr{selector("a")}}, true}, {"a", api.Expr{Kind: api.ESel, Kids: []api.Expr{selector("a")}}, true},
		{"a", api.Expr{Kind: api.ENum, Match: named("a")}, false}, {"a", api.Expr{Kind: api.ECall, Name: "a", Match: named("a")}, false}, {"a", api.Expr{Kind: 0, Match: named("a")}, false}, {"a", api.Expr{Kind: 9, Name: "a", Names: []string{"a"}, Match: named("a")}, false},
		{"a", api.Expr{Kind: api.ESel, Name: "a"}, false}, {"a", api.Expr{Kind: api.ESel, Names: []string{"a"}}, false}, {"a", api.Expr{Kind: api.ESel, Match: named("a"), Range: -5, By: true, On: true}, true}, {"a", api.Expr{Kind: api.ESel, Match: append(named("x"), named("a")...)}, false}, {"a", api.Expr{Kind: api.ESel, Match: append(named("a"), make([]api.Matcher, 30)...)}, true},
		{"a", api.Expr{Kind: api.ESel, Match: []api.Matcher{{Name: "__name__", Text: "a"}}}, false}, {"a", api.Expr{Kind: api.ESel, Match: []api.Matcher{{Name: "__name__", Kind: 5, Text: "a"}}}, false}, {"a", api.Expr{Kind: api.ESel, Match: []api.Matcher{{Kind: api.MEq, Text: "a"}}}, false},
	} {
		g := api.Group{Rules: []api.Rule{{Record: "first"}, {Record: x.record, E: x.e}}}
		want, order := "[]", "[0 1]"
		if x.leans {
			want, order = "[1]", circle
		}
		if got := fmt.Sprint(Deps(g, 1)); got != want {
			t.Errorf("P11.1: %.30q of %s: %s, for %s", x.record, told(x.e), got, want)
		}
		if got := orderText(g); got != order {
			t.Errorf("P11.2: %.30q of %s: %s, for %s", x.record, told(x.e), got, order)
		}
		isAsModelled(t, api.Config{Groups: []api.Group{{}, g, g}})
	}
}

func TestRandomGroups(t *testing.T) {
	r := rand.New(rand.NewSource(111))
	circles := 0
	const tries = 6000
	for range tries {
		c := api.Config{Relabels: make([]api.Relabel, r.Intn(2))}
		for range r.Intn(4) {
			c.Groups = append(c.Groups, randomGroup(r))
		}
		isAsModelled(t, c)
		if _, e := Check(c); e != api.OK {
			circles++
		}
	}
	if circles < tries/10 || circles > tries-tries/10 {
		t.Errorf("%d circles of %d tell little", circles, tries)
	}
}

func TestRandomOrderlyGroups(t *testing.T) {
	r := rand.New(rand.NewSource(112))
	for range 300 {
		g := randomOrderly(r, r.Intn(40))
		if _, e := Order(g); e != api.OK {
			t.Fatalf("P11.2: %s: %v", told(g), e)
		}
		isAsModelled(t, api.Config{Groups: []api.Group{g}})
	}
}

// numbered: n rules, each of its own name, with such expressions.
func numbered(n int, e func(i int) api.Expr) api.Group {
	g := api.Group{}
	for i := range n {
		g.Rules = append(g.Rules, api.Rule{Record: fmt.Sprint("m", i), E: e(i)})
	}
	return g
}

func isOrder(t *testing.T, what string, g api.Group, want func(i int) int) {
	t.Helper()
	l, e := Order(g)
	if e != api.OK || len(l) != len(g.Rules) {
		t.Fatalf("P11.2: %s: %d places, %v", what, len(l), e)
	}
	for i, place := range l {
		if place != want(i) {
			t.Fatalf("P11.2: %s: %d comes as number %d, for %d", what, place, i, want(i))
		}
	}
}

// TestManyRules: far more than a file may have, in time.
func TestManyRules(t *testing.T) {
	const n = 1 << 16
	same := func(i int) int { return i }
	isOrder(t, "free", numbered(n, func(int) api.Expr { return api.Expr{} }), same)
	isOrder(t, "in order", numbered(n, func(i int) api.Expr { return selector(fmt.Sprint("m", i-1)) }), same)
	isOrder(t, "in the other order", numbered(n, func(i int) api.Expr { return selector(fmt.Sprint("m", i+1)) }), func(i int) int { return n - 1 - i })
	isOrder(t, "all on the last", numbered(n, func(i int) api.Expr { return selector(map[bool]string{true: "m65535", false: "x"}[i < n-1]) }), func(i int) int { return (i + n - 1) % n })
	round := numbered(n, func(i int) api.Expr { return selector(fmt.Sprint("m", (i+1)%n)) })
	if l, e := Order(round); len(l) > 0 || e != api.ErrCycle {
		t.Errorf("P11.2: a circle of all: %d, %v", len(l), e)
	}
	if at, e := Check(api.Config{Groups: append(make([]api.Group, n), round)}); at != n || e != api.ErrCycle {
		t.Errorf("P11.2: a circle behind many groups: %d, %v", at, e)
	}
	// Half of them of one name, on which the other half leans.
	half := numbered(n, func(i int) api.Expr { return selector(map[bool]string{true: "all", false: "x"}[i < n/2]) })
	for i := n / 2; i < n; i++ {
		half.Rules[i].Record = "all"
	}
	isOrder(t, "half on the other half", half, func(i int) int { return (i + n/2) % n })
	if l := Deps(half, 0); len(l) != n/2 || l[0] != n/2 || l[len(l)-1] != n-1 || !slices.IsSorted(l) {
		t.Errorf("P11.1: half on the other half: %d", len(l))
	}
	if l := Deps(half, n-1); len(l) != 0 {
		t.Errorf("P11.1: the other half: %d", len(l))
	}
}

// TestGreatExpressions: long ones, and deep ones.
func TestGreatExpressions(t *testing.T) {
	deep := selector("b")
	deep.Range = 90
	for range 1 << 15 {
		deep = api.Expr{Kind: api.ENeg, Kids: []api.Expr{deep}}
	}
	wide := api.Expr{Kind: api.EBin}
	for i := range 1 << 16 {
		wide.Kids = append(wide.Kids, selector(fmt.Sprint("m", i%5000)))
	}
	wide.Kids = append(wide.Kids, selector("a"))
	g := api.Group{Rules: []api.Rule{{Record: "a", E: deep}, {Record: "c", E: wide}, {Record: "b"}, {Record: "m4999"}}}
	if got := fmt.Sprint(orderText(g), Deps(g, 0), Deps(g, 1), Horizon(api.Config{Groups: []api.Group{g}})); got != "[2 0 3 1][2] [0 3] 90" {
		t.Errorf("P11.2: %s", got)
	}
}

// TestAnswersAreNew: what is done with one answer touches none of the others, nor what was handed in.
func TestAnswersAreNew(t *testing.T) {
	c := roomyConfig(config(t, "c=a + b;b=a;a=1;d=1;a=2"))
	was := allOf(c)
	g := c.Groups[0]
	spoil := func(l []int) {
		for i := range l[:cap(l)] {
			l[:cap(l)][i] = -7
		}
	}
	for range 3 {
		first, _ := Order(g)
		second, _ := Order(g)
		deps, others := Deps(g, 0), Deps(g, 0)
		spoil(first)
		spoil(deps)
		if got := fmt.Sprint(second, others); got != "[2 3 4 1 0] [1 2 4]" {
			t.Errorf("P11.2: beside another answer: %s", got)
		}
		spoil(second)
		spoil(others)
	}
	if !expr.Same(allOf(c).Groups[0].Rules[0].E, was.Groups[0].Rules[0].E) || fmt.Sprint(allOf(c)) != fmt.Sprint(was) {
		t.Errorf("P11.2: what was handed in was changed: %s", told(c))
	}
}

func FuzzOrder(f *testing.F) {
	for _, s := range []string{"group g every 1\nrecord b = a + 1\nrecord a = x\n", "group g every 1\nrecord a = a\n", "group g every 1\ngroup h every 2\nrecord a = b\nrecord b = rate(a[70t])\n", "group g every 1\nrecord a = 1\nrecord a = 2\nrecord b = a - a\n"} {
		f.Add(s)
	}
	f.Fuzz(func(t *testing.T, s string) {
		c, _, e := rules.Parse(s)
		if e == api.OK {
			isAsModelled(t, c)
		}
	})
}
