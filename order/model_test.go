package order

import (
	"fmt"
	"math/rand"
	"reflect"
	"regexp"
	"slices"
	"strings"
	"testing"

	"spillway/api"
	"spillway/expr"
)

// The model: the chapter's words, place by place. It shares nothing with the program.

var isName = regexp.MustCompile(`^[A-Za-z_][A-Za-z0-9_]{0,19}$`)

// names: whether a selector of e names that metric.
func names(e api.Expr, metric string) bool {
	if e.Kind == api.ESel && len(e.Match) > 0 && e.Match[0] == (api.Matcher{Name: "__name__", Kind: api.MEq, Text: metric}) && isName.MatchString(metric) {
		return true
	}
	return slices.ContainsFunc(e.Kids, func(kid api.Expr) bool { return names(kid, metric) })
}

func modelDeps(g api.Group, i int) []int {
	out := []int{}
	for place := range g.Rules {
		if i >= 0 && i < len(g.Rules) && names(g.Rules[i].E, g.Rules[place].Record) {
			out = append(out, place)
		}
	}
	return out
}

func modelOrder(g api.Group) ([]int, api.Errno) {
	deps := [][]int{}
	for i := range g.Rules {
		deps = append(deps, modelDeps(g, i))
	}
	out := []int{}
	isMissing := func(place int) bool { return !slices.Contains(out, place) }
	for len(out) < len(g.Rules) {
		next := -1
		for i := len(g.Rules) - 1; i >= 0; i-- {
			if isMissing(i) && !slices.ContainsFunc(deps[i], isMissing) {
				next = i
			}
		}
		if next < 0 {
			return nil, 110
		}
		out = append(out, next)
	}
	return out, 0
}

func modelReach(e api.Expr) int {
	most := e.Range
	for _, kid := range e.Kids {
		most = max(most, modelReach(kid))
	}
	return most
}

func modelHorizon(c api.Config) int {
	most := 10
	for _, g := range c.Groups {
		for _, r := range g.Rules {
			most = max(most, modelReach(r.E))
		}
	}
	return most
}

func modelCheck(c api.Config) (int, api.Errno) {
	for i, g := range c.Groups {
		if _, e := modelOrder(g); e != 0 {
			return i, e
		}
	}
	return 0, 0
}

// What is held against what.

// told: the beginning of what x is.
func told(x any) string {
	s := fmt.Sprintf("%+v", x)
	return s[:min(len(s), 300)]
}

// list: a copy, nil of an empty one.
func list[T any](l []T) []T { return append([]T(nil), l...) }

// roomy: l with room behind it in which something lies.
func roomy[T any](l []T, behind ...T) []T { return append(list(l), behind...)[:len(l)] }

// all: a copy of l and of what lies in the room behind it.
func all[T any](l []T) []T { return list(l[:cap(l)]) }

func roomyExpr(e api.Expr) api.Expr {
	kids := []api.Expr{}
	for _, kid := range e.Kids {
		kids = append(kids, roomyExpr(kid))
	}
	e.Match, e.Names, e.Kids = roomy(e.Match, api.Matcher{Name: "behind"}), roomy(e.Names, "behind"), roomy(kids, api.Expr{Kind: api.ENum})
	return e
}

// roomyConfig: c with such room behind each list in it. What lies there would be another answer, if it counted.
func roomyConfig(c api.Config) api.Config {
	self := api.Rule{Record: "behind", E: api.Expr{Kind: api.ESel, Match: named("behind"), Range: 1 << 20}}
	c.Groups = list(c.Groups)
	for i := range c.Groups {
		g := &c.Groups[i]
		g.Rules = list(g.Rules)
		for j := range g.Rules {
			r := &g.Rules[j]
			r.Static, r.E = roomy(r.Static, api.Pair{Name: "behind"}), roomyExpr(r.E)
		}
		g.Rules = roomy(g.Rules, self)
	}
	c.Relabels, c.Groups = roomy(c.Relabels, api.Relabel{Target: "behind"}), roomy(c.Groups, api.Group{Name: "behind", Rules: []api.Rule{self}})
	return c
}

func allExpr(e api.Expr) api.Expr {
	e.Match, e.Names, e.Kids = all(e.Match), all(e.Names), all(e.Kids)
	for i := range e.Kids {
		e.Kids[i] = allExpr(e.Kids[i])
	}
	return e
}

// allOf: a copy of c with what lies in the room behind each list in it.
func allOf(c api.Config) api.Config {
	c.Relabels, c.Groups = all(c.Relabels), all(c.Groups)
	for i := range c.Groups {
		g := &c.Groups[i]
		g.Rules = all(g.Rules)
		for j := range g.Rules {
			r := &g.Rules[j]
			r.Static, r.E = all(r.Static), allExpr(r.E)
		}
	}
	return c
}

// isAsModelled: all calls, of whatever c is, tell what the model does; and nothing of c is changed.
func isAsModelled(t *testing.T, c api.Config) {
	t.Helper()
	c = roomyConfig(c)
	was := allOf(c)
	for _, g := range c.Groups {
		for i := -2; i < len(g.Rules)+2; i++ {
			if got, want := Deps(g, i), modelDeps(g, i); !slices.Equal(got, want) {
				t.Errorf("P11.1: %d of %s: %v, the model %v", i, told(g), got, want)
			}
		}
		got, e := Order(g)
		want, why := modelOrder(g)
		if !slices.Equal(got, want) || e != why {
			t.Errorf("P11.2: %s: %v and %v, the model %v and %v", told(g), got, e, want, why)
		}
		isLeaningBack(t, g)
	}
	if got, want := Horizon(c), modelHorizon(c); got != want {
		t.Errorf("P11.2: %s: horizon %d, the model %d", told(c), got, want)
	}
	at, e := Check(c)
	if want, why := modelCheck(c); at != want || e != why {
		t.Errorf("P11.2: %s: %d and %v, the model %d and %v", told(c), at, e, want, why)
	}
	if !reflect.DeepEqual(allOf(c), was) {
		t.Errorf("P11.2: %s was changed", told(c))
	}
}

// isLeaningBack: each place once, each behind all that it leans on; or there is a circle, and no places.
func isLeaningBack(t *testing.T, g api.Group) {
	t.Helper()
	l, e := Order(g)
	if e != api.OK {
		if len(l) > 0 || e != api.ErrCycle || !isCircled(g) {
			t.Errorf("P11.3: %s: %v, %v", told(g), l, e)
		}
		return
	}
	turn := map[int]int{}
	for i, place := range l {
		turn[place] = i
	}
	if len(l) != len(g.Rules) || len(turn) != len(l) {
		t.Errorf("P11.3: %s: %v aren't all places, each once", told(g), l)
	}
	for i := range g.Rules {
		for _, on := range Deps(g, i) {
			if turn[on] >= turn[i] {
				t.Errorf("P11.3: %s: %v: %d leans on %d", told(g), l, i, on)
			}
		}
	}
}

// isCircled: whether some rule is come back to from itself.
func isCircled(g api.Group) bool {
	for i := range g.Rules {
		seen := map[int]bool{}
		next := modelDeps(g, i)
		for len(next) > 0 {
			place := next[0]
			next = next[1:]
			if place == i {
				return true
			}
			if !seen[place] {
				seen[place] = true
				next = append(next, modelDeps(g, place)...)
			}
		}
	}
	return false
}

// What is made.

// named: the matchers that name a metric.
func named(metric string) []api.Matcher {
	return []api.Matcher{{Name: api.NameLabel, Kind: api.MEq, Text: metric}}
}

// selector: of a metric, whatever its name.
func selector(metric string) api.Expr { return api.Expr{Kind: api.ESel, Match: named(metric)} }

// sum: of all of them, from the left.
func sum(l ...api.Expr) api.Expr {
	e := l[0]
	for _, x := range l[1:] {
		e = api.Expr{Kind: api.EBin, Name: "+", Kids: []api.Expr{e, x}}
	}
	return e
}

// group: of rules like `b=a + 1`, with `;` between; none of "".
func group(t testing.TB, s string) api.Group {
	t.Helper()
	g := api.Group{Name: "g", Every: 1}
	for _, text := range strings.Split(s, ";") {
		record, body, ok := strings.Cut(text, "=")
		if !ok {
			continue
		}
		e, at, why := expr.Parse(strings.TrimSpace(body))
		if why != api.OK {
			t.Fatalf("%q: %v at %d", text, why, at)
		}
		g.Rules = append(g.Rules, api.Rule{Record: strings.TrimSpace(record), E: e})
	}
	return g
}

// config: of such groups.
func config(t testing.TB, l ...string) api.Config {
	t.Helper()
	c := api.Config{}
	for i, s := range l {
		g := group(t, s)
		g.Name += fmt.Sprint(i)
		c.Groups = append(c.Groups, g)
	}
	return c
}

func pick[T any](r *rand.Rand, l ...T) T { return l[r.Intn(len(l))] }

// randomExpr: of up to six metrics; some that aren't the first matcher's, or no name; some kinds that are none.
func randomExpr(r *rand.Rand, deep int) api.Expr {
	if deep == 0 || r.Intn(4) == 0 {
		e := selector(pick(r, "a", "b", "c", "d", "e", "f", "x", "y", "", "9", "a b"))
		e.Range = pick(r, 0, 0, 0, 5, 10, 11, 50, 100, -3, 101)
		switch r.Intn(12) {
		case 0:
			e.Match[0].Kind = pick(r, api.MNe, api.MPrefix, api.MGlob, 0, 5)
		case 1:
			e.Match[0].Name = pick(r, "job", "", "__name", "__NAME__")
		case 2:
			e.Match = append([]api.Matcher{{Name: "job", Kind: api.MEq, Text: "a"}}, e.Match...)
		case 3:
			e.Match = append(e.Match, named("b")...)
		case 4:
			e.Match = nil
		case 5:
			e.Kind = r.Intn(9) - 1
		}
		return e
	}
	e := api.Expr{Kind: pick(r, api.ECall, api.EAgg, api.EBin, api.EBin, api.ENeg, 0, 9), Name: pick(r, "rate", "sum", "+", ">", "a")}
	for range 1 + r.Intn(2) {
		e.Kids = append(e.Kids, randomExpr(r, deep-1))
	}
	return e
}

// randomGroup: with few names leant on there are orders, with many circles.
func randomGroup(r *rand.Rand) api.Group {
	g := api.Group{Name: pick(r, "g", "h", ""), Every: r.Intn(22) - 1}
	deep := r.Intn(3)
	for range r.Intn(10) {
		e := api.Expr{Kind: api.ENum}
		if r.Intn(3) > 0 {
			e = randomExpr(r, deep)
		}
		g.Rules = append(g.Rules, api.Rule{Record: pick(r, "a", "b", "c", "d", "e", "f", "x", "", "9", "a b"), E: e, Static: make([]api.Pair, r.Intn(2))})
	}
	return g
}

// randomOrderly: rules that lean on some made ahead of them alone, and on what is no rule's; then mixed.
func randomOrderly(r *rand.Rand, n int) api.Group {
	g := api.Group{}
	for i := range n {
		parts := []api.Expr{{Kind: api.ENum}}
		for range r.Intn(4) {
			parts = append(parts, selector(fmt.Sprint("m", r.Intn(i+1)+pick(r, 0, 0, 2*n))))
		}
		// Another one of a name that was there leans on none, as those that it could lean on may lean on that name.
		record := fmt.Sprint("m", i+1)
		if i > 0 && r.Intn(4) == 0 {
			record = g.Rules[i-1].Record
			parts = parts[:1]
		}
		g.Rules = append(g.Rules, api.Rule{Record: record, E: sum(parts...)})
	}
	r.Shuffle(n, func(i, j int) { g.Rules[i], g.Rules[j] = g.Rules[j], g.Rules[i] })
	return g
}
