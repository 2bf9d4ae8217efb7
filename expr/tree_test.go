package expr

import (
	"math"
	"math/rand"
	"reflect"
	"slices"
	"strings"
	"testing"

	"spillway/api"
	"spillway/lex"
)

// P8.4

func good() []api.Expr {
	most := []api.Matcher{}
	for i := range api.MaxLabels {
		most = append(most, match("m", 1+i%4, strings.Repeat("v", api.MaxValue)))
	}
	l := []api.Expr{
		num(0, 0), num(0, 1), {Kind: api.ENum, V: api.Num{N: 1}}, {Kind: api.ENum, V: api.Num{N: math.MaxInt64}},
		sel(0), name(0, "x"), sel(0, most...), sel(0, metric("")), sel(0, metric("a b")), sel(0, match(api.NameLabel, api.MNe, "a")), sel(0, match("a", api.MEq, "b"), metric("x")), sel(0, metric("x"), metric("y")),
		ranged(sel(0), 1), ranged(sel(0), api.MaxRange), ranged(name(0, "sum"), 5), sel(0, match("a", api.MGlob, "\x00\xff\t\"\\")),
		call(0, "f", num(0, 1)), call(0, "by", sel(0)), call(0, "without", sel(0)), call(0, strings.Repeat("n", api.MaxName), sel(0)), call(0, "summ", sel(0)), call(0, "SUM", sel(0)),
		by(agg(0, "sum", sel(0))), without(agg(0, "sum", sel(0))), by(agg(0, "avg", sel(0)), listed(api.MaxLabels)...), without(agg(0, "count", num(0, 3)), "by", "on", "sum"),
		on(bin(0, "+", sel(0), sel(0))), ignoring(bin(0, "+", sel(0), sel(0))), on(bin(0, "!=", sel(0), num(0, 1)), listed(api.MaxLabels)...), ignoring(bin(0, "/", num(0, 1), sel(0)), "on"),
		neg(0, num(0, 1)), neg(0, neg(0, sel(0))), neg(0, bin(0, "*", neg(0, sel(0)), call(0, "f", agg(0, "min", sel(0))))),
	}
	for _, s := range aggregs {
		l = append(l, agg(0, s, sel(0)))
	}
	for _, s := range operators {
		l = append(l, bin(0, s, num(0, 1), sel(0)), bin(0, s, bin(0, s, sel(0), sel(0)), bin(0, s, sel(0), sel(0))))
	}
	return l
}

func changed(e api.Expr, change func(*api.Expr)) api.Expr {
	e = plain(e, true)
	change(&e)
	return e
}

// fields: each field set to something that it may not be, or that another kind may have.
func fields() []func(*api.Expr) {
	return []func(*api.Expr){
		func(e *api.Expr) { e.Kind = 0 },
		func(e *api.Expr) { e.Kind = 7 },
		func(e *api.Expr) { e.Kind = -1 },
		func(e *api.Expr) { e.Kind += 1 << 32 },
		func(e *api.Expr) { e.Kind = math.MinInt },
		func(e *api.Expr) { e.V.N = -1 },
		func(e *api.Expr) { e.V.N = math.MinInt64 },
		func(e *api.Expr) { e.V = api.Num{Ovf: true} },
		func(e *api.Expr) { e.V = api.Num{Ovf: true, N: 1} },
		func(e *api.Expr) { e.Name += "$" },
		func(e *api.Expr) { e.Match = append(e.Match, make([]api.Matcher, 9)...) },
		func(e *api.Expr) { e.Match = append(e.Match, api.Matcher{}) },
		func(e *api.Expr) { e.Match = append(e.Match, match("a", 0, "")) },
		func(e *api.Expr) { e.Match = append(e.Match, match("a", 5, "")) },
		func(e *api.Expr) { e.Match = append(e.Match, match("9", 1, "")) },
		func(e *api.Expr) { e.Match = append(e.Match, match("", 1, "")) },
		func(e *api.Expr) { e.Match = append(e.Match, match("a", 1, "\n")) },
		func(e *api.Expr) { e.Match = append(e.Match, match("a", 1, strings.Repeat("v", api.MaxValue+1))) },
		func(e *api.Expr) { e.Match = append(e.Match, match(strings.Repeat("n", api.MaxName+1), 1, "")) },
		func(e *api.Expr) { e.Range = -1 },
		func(e *api.Expr) { e.Range = api.MaxRange + 1 },
		func(e *api.Expr) { e.Range = math.MinInt },
		func(e *api.Expr) { e.Range = math.MaxInt },
		func(e *api.Expr) { e.By, e.Without = true, true },
		func(e *api.Expr) { e.On, e.Ign = true, true },
		func(e *api.Expr) { e.By, e.On = true, true },
		func(e *api.Expr) { e.Without, e.Ign = true, true },
		func(e *api.Expr) { e.Names = append(e.Names, "") },
		func(e *api.Expr) { e.Names = append(e.Names, "9") },
		func(e *api.Expr) { e.Names = append(e.Names, "a b") },
		func(e *api.Expr) { e.Names = append(e.Names, "q", "q") },
		func(e *api.Expr) { e.Names = append(e.Names, "q", "r", "q") },
		func(e *api.Expr) { e.Names = append(e.Names, listed(9)...) },
		func(e *api.Expr) { e.Names = append(e.Names, strings.Repeat("n", api.MaxName+1)) },
		func(e *api.Expr) { e.Kids = append(e.Kids, num(0, 1), num(0, 1)) },
		func(e *api.Expr) { e.Kids = append(e.Kids, num(0, 1), num(0, 1), num(0, 1)) },
		func(e *api.Expr) { e.Kids = append(e.Kids, api.Expr{}) },
		func(e *api.Expr) {
			if len(e.Kids) > 0 {
				e.Kids = e.Kids[1:]
			} else {
				e.Kind = api.ENeg
			}
		},
	}
}

func isntOne(t *testing.T, e api.Expr) {
	t.Helper()
	if Is(e) || Print(e) != "" {
		t.Errorf("P8.4: %+v: %v, %q", e, Is(e), Print(e))
	}
}

func TestIsOfGoodTrees(t *testing.T) {
	for _, e := range good() {
		if !Is(e) || Print(e) == "" || !couldBeRead(e) {
			t.Errorf("P8.4: %+v: %v, %q", e, Is(e), Print(e))
		}
		for _, at := range []int{-1, 5, math.MinInt, math.MaxInt} {
			if x := changed(e, func(e *api.Expr) { e.At = at }); !Is(x) || Print(x) != Print(e) {
				t.Errorf("P8.4: At %d: %+v", at, x)
			}
		}
		x := changed(e, func(e *api.Expr) {
			e.Match, e.Names, e.Kids = append([]api.Matcher{}, e.Match...), append([]string{}, e.Names...), append([]api.Expr{}, e.Kids...)
		})
		if !Is(x) || !Same(x, e) || Print(x) != Print(e) {
			t.Errorf("P8.4: empty lists: %+v", x)
		}
	}
}

func TestIsOfBadTrees(t *testing.T) {
	isntOne(t, api.Expr{})
	for _, e := range good() {
		for i, change := range fields() {
			x := changed(e, change)
			if couldBeRead(x) {
				t.Errorf("P8.4: field %d of %+v is good", i, e)
			}
			isntOne(t, x)
			isntOne(t, neg(0, x))
			isntOne(t, call(0, "f", x))
			isntOne(t, agg(0, "sum", x))
			isntOne(t, bin(0, "+", num(0, 1), x))
			isntOne(t, bin(0, "+", x, num(0, 1)))
			isntOne(t, neg(0, neg(0, bin(0, "+", num(0, 1), call(0, "f", x)))))
		}
	}
	for _, s := range []string{"", "9", "a b", "a$", "é", "sum", "min", "max", "count", "avg", "on", "ignoring", strings.Repeat("n", api.MaxName+1), "+"} {
		isntOne(t, call(0, s, sel(0)))
	}
	for _, s := range []string{"", "f", "by", "without", "on", "summ", "su", "SUM", "rate", "sum ", "+"} {
		isntOne(t, agg(0, s, sel(0)))
		isntOne(t, by(agg(0, s, sel(0)), "a"))
	}
	for _, s := range []string{"", "=", "^=", "*=", "(", ")", ",", "+ ", "++", "a", "and", "%", "=>", "!", "==="} {
		isntOne(t, bin(0, s, num(0, 1), num(0, 1)))
	}
	for _, e := range []api.Expr{
		{Kind: api.ECall, Name: "f"}, {Kind: api.EAgg, Name: "sum"}, {Kind: api.EBin, Name: "+"}, {Kind: api.ENeg}, {Kind: api.EBin, Name: "+", Kids: []api.Expr{sel(0)}},
		{Kind: api.EAgg, Name: "sum", Names: []string{"a"}, Kids: []api.Expr{sel(0)}}, {Kind: api.EBin, Name: "+", Names: []string{"a"}, Kids: []api.Expr{sel(0), sel(0)}},
		on(agg(0, "sum", sel(0))), ignoring(agg(0, "sum", sel(0)), "a"), by(bin(0, "+", sel(0), sel(0)), "a"), without(bin(0, "+", sel(0), sel(0))), by(call(0, "f", sel(0))), on(call(0, "f", sel(0))), by(neg(0, sel(0))), on(sel(0), "a"), by(num(0, 1)),
		{Kind: api.ENum, Range: 1}, {Kind: api.ENum, Match: []api.Matcher{metric("x")}}, {Kind: api.ENum, Name: "x"}, {Kind: api.ENum, Names: []string{"x"}}, {Kind: api.ESel, V: api.Num{N: 1}}, {Kind: api.ESel, Name: "x"}, {Kind: api.ESel, Names: []string{"x"}}, {Kind: api.ESel, Kids: []api.Expr{sel(0)}},
		{Kind: api.ENeg, Name: "-", Kids: []api.Expr{sel(0)}}, {Kind: api.ENeg, V: api.Num{N: 1}, Kids: []api.Expr{sel(0)}}, ranged(call(0, "f", sel(0)), 5), ranged(agg(0, "sum", sel(0)), 5), ranged(bin(0, "+", sel(0), sel(0)), 5),
		changed(call(0, "f", sel(0)), func(e *api.Expr) { e.Names = []string{"a"} }), changed(call(0, "f", sel(0)), func(e *api.Expr) { e.Match = []api.Matcher{metric("a")} }), changed(call(0, "f", sel(0)), func(e *api.Expr) { e.V.Ovf = true }),
		changed(agg(0, "sum", sel(0)), func(e *api.Expr) { e.Match = []api.Matcher{metric("a")} }), changed(agg(0, "sum", sel(0)), func(e *api.Expr) { e.V.N = 1 }), changed(bin(0, "+", sel(0), sel(0)), func(e *api.Expr) { e.Match = []api.Matcher{metric("a")} }), changed(bin(0, "+", sel(0), sel(0)), func(e *api.Expr) { e.V.N = 1 }),
	} {
		isntOne(t, e)
	}
}

// bend: a field of one of its expressions, by chance.
func bend(r *rand.Rand, e *api.Expr) {
	if len(e.Kids) > 0 && r.Intn(2) == 0 {
		bend(r, &e.Kids[r.Intn(len(e.Kids))])
		return
	}
	switch r.Intn(12) {
	case 0:
		e.Kind = r.Intn(8)
	case 1:
		e.V = pick(r, []api.Num{{}, {N: 1}, {N: -1}, {Ovf: true}, {N: math.MinInt64}})
	case 2:
		e.Name = pick(r, slices.Concat(words, operators, []string{"", "=", "9"}))
	case 3:
		e.Match = append(e.Match, match(pick(r, append(words, "", "9")), r.Intn(6), pick(r, append(texts, "\n", strings.Repeat("v", 31)))))
	case 4:
		e.Match = nil
	case 5:
		e.Range = pick(r, []int{-1, 0, 1, 100, 101})
	case 6:
		e.By, e.Without = r.Intn(2) == 0, r.Intn(2) == 0
	case 7:
		e.On, e.Ign = r.Intn(2) == 0, r.Intn(2) == 0
	case 8:
		e.Names = append(e.Names, pick(r, append(words, "", "9")))
	case 9:
		e.Names = nil
	case 10:
		e.Kids = append(e.Kids, num(0, 1))
	case 11:
		e.Kids = e.Kids[:max(0, len(e.Kids)-1)]
	}
}

// TestIsIsWhatCouldBeRead: trees bent by chance are expressions exactly if a text is read as them.
func TestIsIsWhatCouldBeRead(t *testing.T) {
	r := rand.New(rand.NewSource(84))
	some := [2]int{}
	for range 100000 {
		e := plain(randomTree(r, r.Intn(3)), true)
		for range r.Intn(3) {
			bend(r, &e)
		}
		s := blind(e)
		if len(s) > api.MaxText {
			continue
		}
		want := couldBeRead(e)
		if Is(e) != want || (Print(e) != "") != want {
			t.Fatalf("P8.4: %+v: %v, %q for %v (%s)", e, Is(e), Print(e), want, s)
		}
		if want {
			some[0]++
		} else {
			some[1]++
		}
	}
	if min(some[0], some[1]) < 10000 {
		t.Errorf("P8.4: only %v", some)
	}
}

// ofCount: trees of n expressions, in several shapes.
func ofCount(n int) []api.Expr {
	line := num(0, 1)
	for range n - 1 {
		line = neg(0, line)
	}
	calls := num(0, 1)
	for range n - 1 {
		calls = call(0, "f", calls)
	}
	l := []api.Expr{line, calls}
	left, right, top := num(0, 1), num(0, 1), false
	for range (n - 1) / 2 {
		left, right = bin(0, "+", left, num(0, 1)), bin(0, "+", num(0, 1), right)
		top = true
	}
	if n%2 == 0 {
		left, right = neg(0, left), agg(0, "sum", right)
	}
	if top {
		l = append(l, left, right)
	}
	var even func(n int) api.Expr
	even = func(n int) api.Expr {
		switch n {
		case 1:
			return num(0, 1)
		case 2:
			return neg(0, num(0, 1))
		}
		return bin(0, "*", even((n-1)/2), even(n-1-(n-1)/2))
	}
	return append(l, even(n))
}

func TestHowManyExpressions(t *testing.T) {
	for _, n := range []int{1, 2, 3, 16, 17, 599, 600, 601, 698, 699, 700, 701, 702, 703, 1400, 5000} {
		for i, e := range ofCount(n) {
			if count(e) != n {
				t.Fatalf("%d: %d", n, count(e))
			}
			if Is(e) != (n <= 700) || (Print(e) != "") != (n <= 700) {
				t.Errorf("P8.4: %d expressions, shape %d: %v", n, i, Is(e))
			}
			if n == 700 && (Is(neg(0, e)) || Is(bin(0, "+", num(0, 1), e))) {
				t.Errorf("P8.4: one more than %d, shape %d", n, i)
			}
		}
	}
	isntOne(t, api.Expr{Kind: api.EBin, Name: "+", Kids: slices.Repeat([]api.Expr{num(0, 1)}, 1<<20)})
	// However many there are, it ends.
	e := num(0, 1)
	for range 200 {
		e = bin(0, "+", e, e)
	}
	isntOne(t, e)
	e = num(0, 1)
	for range 1 << 16 {
		e = neg(0, e)
	}
	isntOne(t, e)
	if !Same(e, e) || len(Metrics(e)) != 0 {
		t.Errorf("P8.4: nested deep")
	}
}

func TestSame(t *testing.T) {
	l := good()
	for i, a := range l {
		for j, b := range l {
			if Same(a, b) != isEqualUnplaced(a, b) || Same(a, b) != (i == j) {
				t.Errorf("P8.4: rows %d, %d: %v", i, j, Same(a, b))
			}
		}
		x := changed(a, func(e *api.Expr) { e.At = 77 })
		for j := range x.Kids {
			x.Kids[j].At = 99 + j
		}
		if !Same(a, x) || !Same(x, a) || !Same(neg(0, a), neg(1, x)) {
			t.Errorf("P8.4: row %d: other places", i)
		}
	}
	if !Same(api.Expr{}, api.Expr{}) || !Same(api.Expr{At: 3}, api.Expr{Match: []api.Matcher{}, Names: []string{}, Kids: []api.Expr{}}) {
		t.Errorf("P8.4: zeros")
	}
}

// TestSameOfEachField: at the top, and within; whether it is an expression or not.
func TestSameOfEachField(t *testing.T) {
	full := api.Expr{Kind: 9, V: api.Num{Ovf: true, N: 3}, Name: "n", Match: []api.Matcher{metric("x"), match("a", 2, "b")}, Range: 7, By: true, Ign: true, Names: []string{"a", "b"}, Kids: []api.Expr{num(0, 1), name(0, "x")}}
	for i, change := range []func(*api.Expr){
		func(e *api.Expr) { e.Kind++ },
		func(e *api.Expr) { e.V.Ovf = false },
		func(e *api.Expr) { e.V.N++ },
		func(e *api.Expr) { e.Name = "N" },
		func(e *api.Expr) { e.Name = "" },
		func(e *api.Expr) { e.Match = nil },
		func(e *api.Expr) { e.Match = e.Match[:1] },
		func(e *api.Expr) { e.Match = append(e.Match, metric("x")) },
		func(e *api.Expr) { e.Match[0].Name = "a" },
		func(e *api.Expr) { e.Match[0].Kind = 3 },
		func(e *api.Expr) { e.Match[1].Text = "c" },
		func(e *api.Expr) { e.Match[0], e.Match[1] = e.Match[1], e.Match[0] },
		func(e *api.Expr) { e.Range++ },
		func(e *api.Expr) { e.By = false },
		func(e *api.Expr) { e.Without = true },
		func(e *api.Expr) { e.On = true },
		func(e *api.Expr) { e.Ign = false },
		func(e *api.Expr) { e.Names = nil },
		func(e *api.Expr) { e.Names = e.Names[1:] },
		func(e *api.Expr) { e.Names[0], e.Names[1] = "b", "a" },
		func(e *api.Expr) { e.Names[1] = "" },
		func(e *api.Expr) { e.Kids = nil },
		func(e *api.Expr) { e.Kids = e.Kids[:1] },
		func(e *api.Expr) { e.Kids[0], e.Kids[1] = e.Kids[1], e.Kids[0] },
		func(e *api.Expr) { e.Kids[0].V.N++ },
		func(e *api.Expr) { e.Kids[1].Range++ },
		func(e *api.Expr) { e.Kids[1].Kids = []api.Expr{{}} },
	} {
		x := changed(full, change)
		if Same(full, x) || Same(x, full) || !Same(x, x) || Same(neg(0, full), neg(0, x)) || Same(bin(0, "+", full, x), bin(0, "+", x, full)) {
			t.Errorf("P8.4: row %d: %+v", i, x)
		}
	}
	if !Same(full, changed(full, func(e *api.Expr) { e.At, e.Kids[0].At, e.Kids[1].At = 1, 2, 3 })) {
		t.Errorf("P8.4: other places")
	}
}

func TestPrint(t *testing.T) {
	for i, c := range []struct {
		e    api.Expr
		want string
	}{
		{num(0, 0), "0"}, {num(0, 10), "10"}, {api.Expr{Kind: api.ENum, V: api.Num{N: 1500000}}, "1.5"}, {api.Expr{Kind: api.ENum, V: api.Num{N: 1}}, "0.000001"}, {api.Expr{Kind: api.ENum, V: api.Num{N: math.MaxInt64}}, "9223372036854.775807"},
		{sel(0), "{}"}, {ranged(sel(0), 1), "{}[1t]"}, {name(0, "x"), "x"}, {ranged(name(0, "x"), 100), "x[100t]"}, {name(0, "sum"), "sum"}, {name(0, "on"), "on"},
		{sel(0, match("a", api.MEq, "b")), `{a="b"}`}, {sel(0, match("a", api.MNe, "")), `{a!=""}`}, {sel(0, match("a", api.MPrefix, "b")), `{a^="b"}`}, {sel(0, match("a", api.MGlob, "*")), `{a*="*"}`},
		{ranged(sel(0, metric("x"), match("a", api.MEq, "b"), match("c", api.MNe, "d")), 5), `x{a="b", c!="d"}[5t]`}, {sel(0, match("a", api.MEq, "b"), match("c", api.MNe, "d")), `{a="b", c!="d"}`},
		{sel(0, metric("")), `{__name__=""}`}, {sel(0, metric("a b")), `{__name__="a b"}`}, {sel(0, metric("9a")), `{__name__="9a"}`}, {sel(0, metric(strings.Repeat("n", 20))), strings.Repeat("n", 20)}, {sel(0, metric(strings.Repeat("n", 21))), `{__name__="` + strings.Repeat("n", 21) + `"}`},
		{sel(0, match(api.NameLabel, api.MNe, "x")), `{__name__!="x"}`}, {sel(0, match(api.NameLabel, api.MPrefix, "x")), `{__name__^="x"}`}, {sel(0, match(api.NameLabel, api.MGlob, "x")), `{__name__*="x"}`}, {sel(0, match("a", api.MEq, "x")), `{a="x"}`},
		{sel(0, match("a", api.MEq, "b"), metric("x")), `{a="b", __name__="x"}`}, {sel(0, metric("x"), metric("y")), `x{__name__="y"}`}, {sel(0, metric("x y"), metric("z")), `{__name__="x y", __name__="z"}`},
		{sel(0, match("a", api.MEq, `"`), match("b", api.MEq, `\`), match("c", api.MEq, `\"`), match("d", api.MEq, "\t ")), "{a=\"\\\"\", b=\"\\\\\", c=\"\\\\\\\"\", d=\"\t \"}"},
		{call(0, "f", num(0, 1)), "f(1)"}, {call(0, "by", call(0, "g", sel(0))), "by(g({}))"}, {call(0, "f", bin(0, "+", num(0, 1), num(0, 2))), "f((1 + 2))"},
		{agg(0, "sum", name(0, "x")), "sum (x)"}, {by(agg(0, "sum", name(0, "x"))), "sum by () (x)"}, {by(agg(0, "min", name(0, "x")), "a"), "min by (a) (x)"}, {without(agg(0, "max", name(0, "x")), "b", "a"), "max without (b, a) (x)"}, {without(agg(0, "count", name(0, "x"))), "count without () (x)"}, {agg(0, "avg", bin(0, ">", name(0, "x"), num(0, 2))), "avg ((x > 2))"}, {agg(0, "avg", agg(0, "sum", name(0, "x"))), "avg (sum (x))"},
		{bin(0, "+", num(0, 1), num(0, 2)), "(1 + 2)"}, {on(bin(0, "+", num(0, 1), num(0, 2)), "a"), "(1 + on (a) 2)"}, {on(bin(0, "!=", num(0, 1), num(0, 2))), "(1 != on () 2)"}, {ignoring(bin(0, ">=", num(0, 1), num(0, 2)), "a", "b", "c"), "(1 >= ignoring (a, b, c) 2)"}, {bin(0, "-", bin(0, "-", num(0, 1), num(0, 2)), bin(0, "*", num(0, 3), num(0, 4))), "((1 - 2) - (3 * 4))"},
		{neg(0, num(0, 1)), "-1"}, {neg(0, neg(0, name(0, "x"))), "--x"}, {neg(0, bin(0, "-", neg(0, num(0, 1)), neg(0, num(0, 2)))), "-(-1 - -2)"}, {neg(0, agg(0, "sum", num(0, 1))), "-sum (1)"}, {neg(0, call(0, "f", num(0, 1))), "-f(1)"},
		{by(agg(0, "sum", call(0, "rate", ranged(name(0, "x"), 5))), "job"), "sum by (job) (rate(x[5t]))"},
	} {
		if got := Print(c.e); got != c.want {
			t.Errorf("P8.4: row %d: %q for %q", i, got, c.want)
		}
		isReadAsPrinted(t, c.e)
	}
	for _, s := range operators {
		if got := Print(bin(0, s, name(0, "a"), name(0, "b"))); got != "(a "+s+" b)" {
			t.Errorf("P8.4: %s: %q", s, got)
		}
	}
	if got := Print(api.Expr{}); got != "" {
		t.Errorf("P8.4: %q", got)
	}
}

func TestMetrics(t *testing.T) {
	x := name(0, "x")
	for i, c := range []struct {
		e    api.Expr
		want []string
	}{
		{api.Expr{}, nil}, {num(0, 1), nil}, {sel(0), nil}, {x, []string{"x"}}, {ranged(x, 5), []string{"x"}}, {sel(0, metric("x"), metric("y")), []string{"x"}}, {sel(0, metric("x"), match("a", api.MEq, "b")), []string{"x"}},
		{sel(0, match("a", api.MEq, "b"), metric("x")), nil}, {sel(0, match("a", api.MEq, "x")), nil}, {sel(0, match(api.NameLabel, api.MNe, "x")), nil}, {sel(0, match(api.NameLabel, api.MPrefix, "x")), nil}, {sel(0, match(api.NameLabel, api.MGlob, "x")), nil},
		{sel(0, metric("")), nil}, {sel(0, metric("a b")), nil}, {sel(0, metric("9")), nil}, {sel(0, metric(strings.Repeat("n", 21))), nil}, {sel(0, metric("a b"), metric("x")), nil},
		{neg(0, x), []string{"x"}}, {call(0, "f", x), []string{"x"}}, {by(agg(0, "sum", x), "a"), []string{"x"}}, {on(bin(0, "+", num(0, 1), x), "a"), []string{"x"}}, {bin(0, "+", x, num(0, 1)), []string{"x"}},
		{bin(0, "+", x, x), []string{"x"}}, {bin(0, "+", x, name(0, "a")), []string{"a", "x"}}, {bin(0, "+", bin(0, "+", name(0, "b"), name(0, "a")), bin(0, "+", name(0, "a"), name(0, "b"))), []string{"a", "b"}},
		{bin(0, "+", bin(0, "*", name(0, "ab"), name(0, "a")), bin(0, "+", name(0, "B"), bin(0, "+", name(0, "_"), name(0, "a1")))), []string{"B", "_", "a", "a1", "ab"}},
		// Whatever it is: of selectors alone, all of them.
		{api.Expr{Kind: api.ECall, Match: []api.Matcher{metric("x")}}, nil}, {api.Expr{Match: []api.Matcher{metric("x")}}, nil}, {api.Expr{Kind: 9, Kids: []api.Expr{x, name(0, "w")}}, []string{"w", "x"}}, {api.Expr{Kind: api.ESel, Range: -1, Match: []api.Matcher{metric("x"), {}}, Kids: []api.Expr{name(0, "y")}}, []string{"x", "y"}},
	} {
		if got := Metrics(c.e); !slices.Equal(got, c.want) {
			t.Errorf("P8.4: row %d: %q for %q", i, got, c.want)
		}
	}
	r := rand.New(rand.NewSource(85))
	for range 20000 {
		e := randomTree(r, r.Intn(5))
		names := map[string]int{}
		var look func(e api.Expr)
		look = func(e api.Expr) {
			if len(e.Match) > 0 && e.Match[0].Name == api.NameLabel && e.Match[0].Kind == api.MEq && slices.Contains(words, e.Match[0].Text) {
				names[e.Match[0].Text]++
			}
			for _, kid := range e.Kids {
				look(kid)
			}
		}
		look(e)
		got := Metrics(e)
		for i, s := range got {
			if names[s] == 0 || i > 0 && got[i-1] >= s {
				t.Fatalf("P8.4: %s: %q", blind(e), got)
			}
		}
		if len(got) != len(names) {
			t.Fatalf("P8.4: %s: %q for %v", blind(e), got, names)
		}
	}
}

// P8.5

// nesting: how deep a tree is nested in print, where each but a number and a selector has brackets or a `-`.
func nesting(e api.Expr) int {
	most := 0
	for _, kid := range e.Kids {
		most = max(most, nesting(kid))
	}
	if e.Kind == api.ENum || e.Kind == api.ESel {
		return 0
	}
	return 1 + most
}

func isReadAsPrinted(t *testing.T, e api.Expr) {
	t.Helper()
	s := Print(e)
	got, at, n := Parse(s)
	switch {
	case len(s) > api.MaxText:
		if n != api.ErrLong || at != 0 {
			t.Fatalf("P8.5: %d bytes: %d, %v", len(s), at, n)
		}
	case nesting(e) > api.MaxNest:
		if n != api.ErrDeep {
			t.Fatalf("P8.5: %q: %d, %v", s, at, n)
		}
	case n != api.OK || at != 0 || !Same(got, e) || !isEqualUnplaced(got, e) || Print(got) != s:
		t.Fatalf("P8.5: %q: %s, %d, %v", s, told(got), at, n)
	}
}

func TestPrintedIsRead(t *testing.T) {
	for _, e := range good() {
		isReadAsPrinted(t, e)
	}
	r := rand.New(rand.NewSource(86))
	for range 60000 {
		e := randomTree(r, r.Intn(6))
		if count(e) <= 700 {
			isReadAsPrinted(t, e)
		}
	}
	for n := 1; n < 40; n++ {
		for _, e := range ofCount(n) {
			isReadAsPrinted(t, e)
		}
	}
	// One behind the other isn't nested as it is read, but it is in print.
	e, _, n := Parse(strings.Repeat("1+", 15) + "1")
	if n != api.OK || Print(e) != strings.Repeat("(", 15)+"1"+strings.Repeat(" + 1)", 15) {
		t.Errorf("P8.5: %q, %v", Print(e), n)
	}
	isReadAsPrinted(t, e)
	if _, at, n := Parse(Print(bin(0, "+", e, num(0, 1)))); n != api.ErrDeep || at != 16 {
		t.Errorf("P8.5: %d, %v", at, n)
	}
}

func TestReadIsPrinted(t *testing.T) {
	r := rand.New(rand.NewSource(87))
	for range 30000 {
		if e, _, n := Parse(loose(r, randomTree(r, r.Intn(5)), 0)); n == api.OK {
			isReadAsPrinted(t, e)
		}
	}
}

// What is handed in stays as it was; what is answered is new.

// roomy: a copy with spare room behind each list, filled.
func roomy(e api.Expr) api.Expr {
	e.Match = append(slices.Clone(e.Match), metric("spare"), metric("spare"))[:len(e.Match)]
	e.Names = append(slices.Clone(e.Names), "spare", "spare")[:len(e.Names)]
	kids := []api.Expr{}
	for _, kid := range e.Kids {
		kids = append(kids, roomy(kid))
	}
	e.Kids = append(kids, num(0, 77), num(0, 78))[:len(kids)]
	return e
}

// spread: with the spare room.
func spread(e api.Expr) api.Expr {
	e.Match, e.Names, e.Kids = slices.Clone(e.Match[:cap(e.Match)]), slices.Clone(e.Names[:cap(e.Names)]), slices.Clone(e.Kids[:cap(e.Kids)])
	for i := range e.Kids {
		e.Kids[i] = spread(e.Kids[i])
	}
	return e
}

func TestHandedInStays(t *testing.T) {
	r := rand.New(rand.NewSource(88))
	l := good()
	for range 300 {
		l = append(l, randomTree(r, r.Intn(5)))
	}
	for range 300 {
		e := plain(randomTree(r, r.Intn(4)), true)
		bend(r, &e)
		l = append(l, e)
	}
	for i, e := range l {
		a, b := roomy(e), roomy(l[(i+1)%len(l)])
		wasA, wasB := spread(a), spread(b)
		Print(a)
		Is(a)
		Metrics(a)
		Same(a, b)
		Same(a, a)
		if !reflect.DeepEqual(spread(a), wasA) || !reflect.DeepEqual(spread(b), wasB) {
			t.Fatalf("P8.4: what was handed in is another thing: %+v", a)
		}
	}
	for _, s := range []string{"", "a", `sum by (a, b) (x{c="d"}[5t]) + on (e) -f(1)`, "a +", "sum by (a, a) (b)", "((((((((((((((((a"} {
		room, _, _ := lex.Scan(s + " ")
		was := slices.Clone(room)
		for n := range len(room) + 1 {
			Read(room[:n])
			if !slices.Equal(room, was) {
				t.Fatalf("P8.3: what was handed in is another thing, or what is behind it: %v", room)
			}
		}
	}
}

// scribble: over all that hangs on it, the spare room too.
func scribble(e *api.Expr) {
	e.Match, e.Names, e.Kids = e.Match[:cap(e.Match)], e.Names[:cap(e.Names)], e.Kids[:cap(e.Kids)]
	for i := range e.Kids {
		scribble(&e.Kids[i])
		e.Kids[i] = api.Expr{Kind: 99}
	}
	for i := range e.Match {
		e.Match[i] = metric("other")
	}
	for i := range e.Names {
		e.Names[i] = "other"
	}
}

func TestAnswersAreNew(t *testing.T) {
	for _, s := range []string{"1", `x{c="d"}`, `sum by (a, b) (x{c="d",e="f"}[5t]) + on (e) -f(1)`, "1+2+3*4>x", `{a="b",c="d",e="f"} - ignoring (a, b, c) {a="b"}`} {
		l, _, _ := lex.Scan(s)
		want, _, _ := modelRead(l)
		kept, _, _ := Read(l)
		parsed, _, _ := Parse(s)
		for range 3 {
			e, at, n := Read(l)
			if n != api.OK || at != 0 || !isEqual(e, want) {
				t.Fatalf("P8.3: another answer: %s, %d, %v", told(e), at, n)
			}
			scribble(&e)
			if !isEqual(kept, want) || !isEqual(parsed, want) {
				t.Fatalf("P8.3: two answers share memory: %s", told(kept))
			}
		}
		// No two lists of one answer share memory.
		lists(kept, func(change func()) {
			before := signature(kept)
			change()
			if changes(before, signature(kept)) != 1 {
				t.Fatalf("P8.3: %s: two lists share memory", s)
			}
		})
	}
	e := bin(0, "+", name(0, "b"), name(0, "a"))
	kept := Metrics(e)
	other := Metrics(e)
	other = other[:cap(other)]
	for i := range other {
		other[i] = "other"
	}
	if !slices.Equal(kept, []string{"a", "b"}) || !slices.Equal(Metrics(e), kept) {
		t.Errorf("P8.4: two answers share memory: %q", kept)
	}
}

// lists: hands over, for each list's spare room and items, a change of one item.
func lists(e api.Expr, do func(change func())) {
	match, names := e.Match[:cap(e.Match)], e.Names[:cap(e.Names)]
	for i := range match {
		do(func() { match[i].Text += "!" })
	}
	for i := range names {
		do(func() { names[i] += "!" })
	}
	kids := e.Kids[:cap(e.Kids)]
	for i := range kids {
		do(func() { kids[i].Name += "!" })
		lists(kids[i], do)
	}
}

// signature: all texts that hang on it, the spare room's too.
func signature(e api.Expr) []string {
	l := []string{e.Name}
	for _, m := range e.Match[:cap(e.Match)] {
		l = append(l, m.Text)
	}
	l = append(l, e.Names[:cap(e.Names)]...)
	for _, kid := range e.Kids[:cap(e.Kids)] {
		l = append(l, signature(kid)...)
	}
	return l
}

func changes(a, b []string) int {
	n := 0
	for i := range a {
		if a[i] != b[i] {
			n++
		}
	}
	return n
}
