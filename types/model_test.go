package types

import (
	"maps"
	"math/rand"
	"reflect"
	"slices"
	"testing"

	"spillway/api"
	"spillway/expr"
)

func copied(e api.Expr) api.Expr {
	e.Match, e.Names, e.Kids = slices.Clone(e.Match), slices.Clone(e.Names), slices.Clone(e.Kids)
	for i := range e.Kids {
		e.Kids[i] = copied(e.Kids[i])
	}
	return e
}

// isEqual: by nothing but their texts and numbers; kid by kid, as some are nested deep.
func isEqual(a, b api.Expr) bool {
	kids, others := a.Kids, b.Kids
	a.Kids, b.Kids = nil, nil
	return reflect.DeepEqual(a, b) && slices.EqualFunc(kids, others, isEqual)
}

// value: what an evaluation comes to: a number, rows, or windows of samples.
type value any

type (
	rows    map[string]int
	windows map[string][]int
)

// stuck: where an evaluation can't go on, and why.
type stuck struct {
	at  int
	why api.Errno
}

// result: what e comes to, or where it gets stuck.
func result(e api.Expr) (v value, s stuck) {
	defer func() {
		if r := recover(); r != nil {
			v, s = nil, r.(stuck)
		}
	}()
	return evaluated(e), stuck{}
}

// evaluated: by going on until something can't be done with the values at hand; types play no part.
func evaluated(e api.Expr) value {
	switch e.Kind {
	case api.ENum:
		return int(e.V.N)
	case api.ESel:
		return selected(e.Range)
	case api.ECall:
		f := function(e)
		w, ok := evaluated(e.Kids[0]).(windows)
		if !ok {
			panic(stuck{e.Kids[0].At, api.ErrType})
		}
		return overAll(w, f)
	case api.EAgg:
		r, ok := evaluated(e.Kids[0]).(rows)
		if !ok {
			panic(stuck{e.Kids[0].At, api.ErrType})
		}
		return rows{"all": added(slices.Collect(maps.Values(r)))}
	case api.ENeg:
		return mapped(e.Kids[0], evaluated(e.Kids[0]), func(n int) int { return -n })
	}
	return combined(e)
}

func selected(width int) value {
	r, w := rows{}, windows{}
	for i, name := range []string{"x", "y"} {
		r[name] = i
		w[name] = make([]int, min(width, 3)+i)
	}
	if width == 0 {
		return r
	}
	return w
}

func added(l []int) int {
	n := 0
	for _, x := range l {
		n += x
	}
	return n
}

func function(e api.Expr) func([]int) int {
	if f := map[string]func([]int) int{
		"sum_over_time": added, "avg_over_time": added, "rate": added, "increase": added, "delta": added, "min_over_time": slices.Min[[]int], "max_over_time": slices.Max[[]int],
		"count_over_time": func(l []int) int { return len(l) }, "last_over_time": func(l []int) int { return l[len(l)-1] },
	}[e.Name]; f != nil {
		return f
	}
	panic(stuck{e.At, api.ErrName})
}

func overAll(w windows, f func([]int) int) rows {
	r := rows{}
	for name, l := range w {
		r[name] = f(l)
	}
	return r
}

// mapped: each number of v, the value of e, by f.
func mapped(e api.Expr, v value, f func(int) int) value {
	switch v := v.(type) {
	case int:
		return f(v)
	case rows:
		r := rows{}
		for name, n := range v {
			r[name] = f(n)
		}
		return r
	}
	panic(stuck{e.At, api.ErrType})
}

func same(n int) int { return n }

// combined: on and ignoring need labels on both sides, a comparison rows that it could leave out. Which it would doesn't count here.
func combined(e api.Expr) value {
	left, right := evaluated(e.Kids[0]), evaluated(e.Kids[1])
	left, right = mapped(e.Kids[0], left, same), mapped(e.Kids[1], right, same)
	l, isRows := left.(rows)
	r, areRows := right.(rows)
	switch {
	case isRows && areRows:
		both := rows{}
		for name, n := range l {
			if m, ok := r[name]; ok {
				both[name] = n + m
			}
		}
		return both
	case e.On || e.Ign:
		panic(stuck{e.At, api.ErrType})
	case isRows:
		return mapped(e.Kids[0], l, func(n int) int { return n + right.(int) })
	case areRows:
		return mapped(e.Kids[1], r, func(n int) int { return left.(int) + n })
	case !slices.Contains(arithmetic, e.Name):
		panic(stuck{e.At, api.ErrType})
	}
	return left.(int) + right.(int)
}

// isEvaluated: what has a type comes to a value of it; what has none gets stuck, there and for that reason.
func isEvaluated(t *testing.T, e api.Expr) told {
	t.Helper()
	v, s := result(e)
	want := no(s.at, s.why)
	switch v.(type) {
	case int:
		want = ok(api.Scalar)
	case rows:
		want = ok(api.Vector)
	case windows:
		want = ok(api.Ranged)
	}
	isTold(t, e, want)
	if t.Failed() {
		t.Fatalf("P9.3: %s", expr.Print(e))
	}
	return want
}

// placed: e, with unlike places, in the order in which they are come to.
func placed(e api.Expr) api.Expr {
	e, next := copied(e), 0
	var place func(e *api.Expr)
	place = func(e *api.Expr) {
		next += 3
		e.At = next
		for i := range e.Kids {
			place(&e.Kids[i])
		}
	}
	place(&e)
	return e
}

func single(kind int, name string, kid api.Expr) api.Expr {
	return api.Expr{Kind: kind, Name: name, Kids: []api.Expr{kid}}
}

// around: all that can be made of these, one or two of them at a time.
func around(l []api.Expr) []api.Expr {
	out := []api.Expr{}
	for _, a := range l {
		out = append(out, single(api.ECall, "rate", a), single(api.ECall, "what", a), single(api.EAgg, "sum", a), single(api.ENeg, "", a))
		for _, b := range l {
			for _, name := range []string{"+", ">"} {
				e := api.Expr{Kind: api.EBin, Name: name, Kids: []api.Expr{a, b}}
				on, ignoring := e, e
				on.On, ignoring.Ign = true, true
				out = append(out, e, on, ignoring)
			}
		}
	}
	return out
}

// TestAllSmallTrees: all of up to three levels, of what turns something.
func TestAllSmallTrees(t *testing.T) {
	l := []api.Expr{{Kind: api.ENum}, {Kind: api.ESel}, {Kind: api.ESel, Range: 20}}
	l = append(l, around(l)...)
	l = append(l, around(l)...)
	some := map[told]int{}
	for _, e := range l {
		got := isEvaluated(t, placed(e))
		got.at = 0
		some[got]++
	}
	for _, o := range []told{ok(api.Scalar), ok(api.Vector), no(0, api.ErrType), no(0, api.ErrName)} {
		if some[o] < 10 {
			t.Errorf("P9.1: only %d of %+v", some[o], o)
		}
	}
}

func pick[T any](r *rand.Rand, l []T) T { return l[r.Intn(len(l))] }

func randomLeaf(r *rand.Rand, is int) api.Expr {
	switch is {
	case api.Scalar:
		return api.Expr{Kind: api.ENum, V: api.Num{N: r.Int63n(1000)}}
	case api.Vector:
		return api.Expr{Kind: api.ESel, Match: []api.Matcher{{Name: api.NameLabel, Kind: api.MEq, Text: "m"}}}
	}
	return api.Expr{Kind: api.ESel, Range: 1 + r.Intn(api.MaxRange)}
}

// randomTree: mostly of that type; now and then of another one.
func randomTree(r *rand.Rand, depth, is int) api.Expr {
	if r.Intn(40) == 0 {
		is = 1 + r.Intn(3)
	}
	if depth == 0 || is == api.Ranged {
		return randomLeaf(r, is)
	}
	kid := func(is int) api.Expr { return randomTree(r, depth-1, is) }
	switch n := r.Intn(6); {
	case n == 0:
		return single(api.ENeg, "", kid(is))
	case n == 1 && is == api.Vector:
		return single(api.ECall, pick(r, append(functions, "what")), kid(api.Ranged))
	case n == 2 && is == api.Vector:
		e := single(api.EAgg, pick(r, aggregates), kid(api.Vector))
		e.By = r.Intn(2) == 0
		return e
	}
	return randomBinary(r, is, kid)
}

func randomBinary(r *rand.Rand, is int, kid func(int) api.Expr) api.Expr {
	if is == api.Scalar {
		return api.Expr{Kind: api.EBin, Name: pick(r, append(arithmetic, arithmetic[0], pick(r, operators))), Kids: []api.Expr{kid(is), kid(is)}}
	}
	e := api.Expr{Kind: api.EBin, Name: pick(r, operators)}
	switch r.Intn(5) {
	case 0:
		e.Kids = []api.Expr{kid(api.Scalar), kid(api.Vector)}
	case 1:
		e.Kids = []api.Expr{kid(api.Vector), kid(api.Scalar)}
	case 2:
		e.On, e.Names = true, []string{"x"}
	case 3:
		e.Ign, e.Names = true, []string{"x", "y"}
	}
	if e.Kids == nil {
		e.Kids = []api.Expr{kid(api.Vector), kid(api.Vector)}
	}
	return e
}

// greatest: all ranges in a list, then the greatest.
func greatest(e api.Expr) int {
	l := []int{api.Lookback}
	for todo := []api.Expr{e}; len(todo) > 0; todo = todo[1:] {
		l = append(l, todo[0].Range)
		todo = append(todo, todo[0].Kids...)
	}
	return slices.Max(l)
}

func TestRandomTrees(t *testing.T) {
	r := rand.New(rand.NewSource(91))
	some := map[told]int{}
	for range 60000 {
		e := placed(randomTree(r, r.Intn(6), 1+r.Intn(3)))
		got := isEvaluated(t, e)
		got.at = 0
		some[got]++
		if Horizon(e) != greatest(e) {
			t.Fatalf("P9.2: %s: %d for %d", expr.Print(e), Horizon(e), greatest(e))
		}
	}
	for _, o := range []told{ok(api.Scalar), ok(api.Vector), ok(api.Ranged), no(0, api.ErrType), no(0, api.ErrName)} {
		if some[o] < 500 {
			t.Errorf("P9.1: only %d of %+v", some[o], o)
		}
	}
}

// TestSpareRoom: what lies behind the lists that are handed in stays as it was, too.
func TestSpareRoom(t *testing.T) {
	kids := []api.Expr{{Kind: api.ESel, At: 4, Range: 20}, {Kind: api.ENum, At: 5}, {Kind: 9, At: 6}}
	names := []string{"x", "spare"}
	e := api.Expr{Kind: api.EBin, At: 3, Name: "+", On: true, Names: names[:1], Kids: kids[:2]}
	for range 3 {
		if got := of(e); got != no(4, api.ErrType) || Horizon(e) != 20 {
			t.Errorf("P9.1: %+v, %d", got, Horizon(e))
		}
		if at, why := Rule(e); at != 4 || why != api.ErrType {
			t.Errorf("P9.2: %d, %v", at, why)
		}
	}
	if names[1] != "spare" || kids[2].Kind != 9 || kids[2].At != 6 || kids[0].Range != 20 || kids[1].At != 5 {
		t.Errorf("P9.1: %v, %v", names, kids)
	}
}

func FuzzOf(f *testing.F) {
	for _, s := range []string{"sum by (job) (rate(x[5t])) >= 0.5", "a + on (b, c) -d * (e[20t] - 1)", "what(1 > 2)", "rate(rate(a[1t]))", "-(1 / a) == 1"} {
		f.Add(s)
	}
	f.Fuzz(func(t *testing.T, s string) {
		if e, _, why := expr.Parse(s); why == api.OK {
			isEvaluated(t, e)
		}
	})
}
