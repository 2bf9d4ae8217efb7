package types

import (
	"math"
	"slices"
	"strings"
	"testing"

	"spillway/api"
	"spillway/expr"
)

var functions = []string{"rate", "increase", "delta", "sum_over_time", "avg_over_time", "min_over_time", "max_over_time", "count_over_time", "last_over_time"}

var aggregates = []string{"sum", "min", "max", "count", "avg"}

var (
	comparisons = []string{">", "<", ">=", "<=", "==", "!="}
	arithmetic  = []string{"+", "-", "*", "/"}
	operators   = slices.Concat(comparisons, arithmetic)
)

// told: what Of answers.
type told struct {
	is, at int
	why    api.Errno
}

func of(e api.Expr) told {
	is, at, why := Of(e)
	return told{is, at, why}
}

func ok(is int) told { return told{is: is} }

func no(at int, why api.Errno) told { return told{at: at, why: why} }

// ruled: what Rule answers of e, by what Of does.
func ruled(e api.Expr, o told) told {
	if o.is == api.Ranged {
		return no(e.At, api.ErrType)
	}
	return no(o.at, o.why)
}

// isTold: Of tells it, Rule what follows from it, and nothing is changed.
func isTold(t *testing.T, e api.Expr, want told) {
	t.Helper()
	was := copied(e)
	if got := of(e); got != want {
		t.Errorf("P9.1: %s: %+v for %+v", expr.Print(e), got, want)
	}
	at, why := Rule(e)
	if got := no(at, why); got != ruled(e, want) {
		t.Errorf("P9.2: %s: %+v for %+v", expr.Print(e), got, ruled(e, want))
	}
	Horizon(e)
	if !isEqual(e, was) {
		t.Errorf("P9.1: %s was changed", expr.Print(was))
	}
}

func parsed(t *testing.T, s string) api.Expr {
	t.Helper()
	e, at, why := expr.Parse(s)
	if why != api.OK {
		t.Fatalf("%q: %d, %v", s, at, why)
	}
	return e
}

func areTold(t *testing.T, want map[string]told) {
	t.Helper()
	for s, o := range want {
		isTold(t, parsed(t, s), o)
		// Three blanks ahead move each place by three.
		if o.why != api.OK {
			o.at += 3
		}
		isTold(t, parsed(t, "   "+s), o)
	}
}

func TestKnown(t *testing.T) {
	for _, s := range functions {
		if !Known(s) {
			t.Errorf("P9.1: %s isn't known", s)
		}
		for _, other := range []string{s + "s", s + " ", " " + s, s + "_", s[1:], s[:len(s)-1], strings.ToUpper(s), strings.ToUpper(s[:1]) + s[1:], s + s, s + "\x00", s + "()"} {
			if Known(other) {
				t.Errorf("P9.1: %q is known", other)
			}
		}
	}
	for _, s := range slices.Concat(aggregates, operators, []string{"", " ", "by", "without", "on", "ignoring", "over_time", "_over_time", "sum_over", "rate,delta", "irate", "stddev_over_time", "f", "rate\n", "ràte", "\xff", strings.Repeat("rate", 1<<16)}) {
		if Known(s) {
			t.Errorf("P9.1: %q is known", s)
		}
	}
}

func TestOfNumbersAndSelectors(t *testing.T) {
	areTold(t, map[string]told{
		"0": ok(api.Scalar), "1": ok(api.Scalar), "0.000001": ok(api.Scalar), "(2)": ok(api.Scalar),
		"a": ok(api.Vector), "{}": ok(api.Vector), `{b="c"}`: ok(api.Vector), `a{b!="c", d^="e"}`: ok(api.Vector), "sum": ok(api.Vector), "rate": ok(api.Vector), "on": ok(api.Vector), "(a)": ok(api.Vector),
		"a[1t]": ok(api.Ranged), "a[10t]": ok(api.Ranged), "a[100t]": ok(api.Ranged), "{}[5t]": ok(api.Ranged), `a{b="c"}[5t]`: ok(api.Ranged), "rate[5t]": ok(api.Ranged), "((a[5t]))": ok(api.Ranged),
	})
}

func TestOfCalls(t *testing.T) {
	for _, s := range functions {
		areTold(t, map[string]told{
			s + "(a[5t])": ok(api.Vector), s + "({}[1t])": ok(api.Vector), s + "(((a[100t])))": ok(api.Vector),
			s + "(a)": no(len(s)+1, api.ErrType), s + "(1)": no(len(s)+1, api.ErrType), s + "( (a))": no(len(s)+3, api.ErrType), s + "(a+b)": no(len(s)+2, api.ErrType), s + "(sum(a))": no(len(s)+1, api.ErrType), s + "(-1)": no(len(s)+1, api.ErrType),
			s + "(rate(a[5t]))": no(len(s)+1, api.ErrType), s + "(-a[5t])": no(len(s)+2, api.ErrType), s + "(what(a[5t]))": no(len(s)+1, api.ErrName), s + "(1+what(1))": no(len(s)+3, api.ErrName), s + "(rate(rate(a)))": no(len(s)+11, api.ErrType),
		})
	}
	for _, s := range []string{"what", "f", "by", "without", "over_time", "Rate", "RATE", "rates", "rat", "sum_over_tim", "sums", "a"} {
		areTold(t, map[string]told{
			s + "(a[5t])": no(0, api.ErrName), s + "(a)": no(0, api.ErrName), s + "(1)": no(0, api.ErrName), s + "(rate(a))": no(0, api.ErrName), s + "(" + s + "(1))": no(0, api.ErrName), s + "(1>1)": no(0, api.ErrName), s + "(-a[5t])": no(0, api.ErrName),
			"rate(" + s + "(1))": no(5, api.ErrName), "sum(" + s + "(1))": no(4, api.ErrName), "-" + s + "(a)": no(1, api.ErrName), "1+" + s + "(a[5t])": no(2, api.ErrName),
		})
	}
}

func TestOfAggregations(t *testing.T) {
	for _, s := range aggregates {
		for _, begin := range []string{s + "(", s + " by () (", s + " without (x) (", s + " by (x, y) ("} {
			n := len(begin)
			areTold(t, map[string]told{
				begin + "a)": ok(api.Vector), begin + "rate(a[5t]))": ok(api.Vector), begin + "sum(a))": ok(api.Vector), begin + "1+a)": ok(api.Vector), begin + "-a)": ok(api.Vector),
				begin + "1)": no(n, api.ErrType), begin + "-1)": no(n, api.ErrType), begin + "1+2)": no(n+1, api.ErrType), begin + "a[5t])": no(n, api.ErrType), begin + "(a[5t]))": no(n+1, api.ErrType),
				begin + "what(1))": no(n, api.ErrName), begin + "rate(a))": no(n+5, api.ErrType), begin + "1>2)": no(n+1, api.ErrType), begin + "sum(1))": no(n+4, api.ErrType),
			})
		}
	}
}

func TestOfOperators(t *testing.T) {
	for _, s := range operators {
		scalars := ok(api.Scalar)
		if slices.Contains(comparisons, s) {
			scalars = no(2, api.ErrType)
		}
		n := len(s)
		areTold(t, map[string]told{
			"1 " + s + " 2": scalars, "1 " + s + " -2": scalars, "1 " + s + " (2 + 3)": scalars,
			"1 " + s + " a": ok(api.Vector), "a " + s + " 1": ok(api.Vector), "a " + s + " b": ok(api.Vector), "a " + s + " a": ok(api.Vector), "rate(a[5t]) " + s + " sum(b)": ok(api.Vector),
			"a[5t] " + s + " 1": no(0, api.ErrType), "a[5t] " + s + " b": no(0, api.ErrType), "a[5t] " + s + " b[5t]": no(0, api.ErrType), "(a[5t]) " + s + " b[5t]": no(1, api.ErrType),
			"1 " + s + " a[5t]": no(3+n, api.ErrType), "a " + s + " b[5t]": no(3+n, api.ErrType), "a " + s + " (b[5t])": no(4+n, api.ErrType),
			"what(1) " + s + " 1": no(0, api.ErrName), "1 " + s + " what(1)": no(3+n, api.ErrName), "a[5t] " + s + " what(1)": no(7+n, api.ErrName), "what(1) " + s + " a[5t]": no(0, api.ErrName), "a " + s + " rate(b)": no(8+n, api.ErrType), "a[5t] " + s + " -b[5t]": no(7+n+1, api.ErrType),
			"rate(a) " + s + " what(1)": no(5, api.ErrType), "what(1) " + s + " rate(a)": no(0, api.ErrName), "sum(1) " + s + " sum(2)": no(4, api.ErrType),
		})
	}
	areTold(t, map[string]told{
		"1 + 2 * -3 / 4 - 5": ok(api.Scalar), "1 + 2 * -a / 4 - 5": ok(api.Vector), "1 + 2 > 3": no(6, api.ErrType), "1 > 2 > a": no(2, api.ErrType), "a > 1 > 2": ok(api.Vector), "1 < a == 2": ok(api.Vector), "a > (1 == 2)": no(7, api.ErrType),
	})
}

func TestOfOnAndIgnoring(t *testing.T) {
	for _, s := range operators {
		for _, word := range []string{"on", "ignoring"} {
			for _, names := range []string{"()", "(x)", "(x, y)", "(a, b, c, d, e, f, g, h)"} {
				mid := " " + s + " " + word + " " + names + " "
				n := len(mid)
				areTold(t, map[string]told{
					"a" + mid + "b": ok(api.Vector), "-a" + mid + "sum(b)": ok(api.Vector), "(1+a)" + mid + "rate(b[5t])": ok(api.Vector),
					"a" + mid + "1": no(2, api.ErrType), "1" + mid + "a": no(2, api.ErrType), "1" + mid + "2": no(2, api.ErrType), "-1" + mid + "-a": no(3, api.ErrType), "a" + mid + "-1": no(2, api.ErrType),
					"a[5t]" + mid + "1": no(0, api.ErrType), "1" + mid + "a[5t]": no(1+n, api.ErrType), "a" + mid + "b[5t]": no(1+n, api.ErrType), "a[5t]" + mid + "b[5t]": no(0, api.ErrType),
					"1" + mid + "what(1)": no(1+n, api.ErrName), "what(1)" + mid + "2": no(0, api.ErrName), "1" + mid + "rate(1)": no(6+n, api.ErrType), "rate(1)" + mid + "what(1)": no(5, api.ErrType),
				})
			}
		}
	}
}

func TestOfNegations(t *testing.T) {
	areTold(t, map[string]told{
		"-1": ok(api.Scalar), "--1": ok(api.Scalar), "-(1 + 2)": ok(api.Scalar), "-a": ok(api.Vector), "--a": ok(api.Vector), "-sum(a)": ok(api.Vector), "-rate(a[5t])": ok(api.Vector), "-(1 * a)": ok(api.Vector),
		"-a[5t]": no(1, api.ErrType), "--a[5t]": no(2, api.ErrType), "-(a[5t])": no(2, api.ErrType), "- a[5t]": no(2, api.ErrType), "-what(1)": no(1, api.ErrName), "-rate(1)": no(6, api.ErrType), "-(1 > 2)": no(4, api.ErrType),
	})
}

// TestWhichErrorIsFirst: the left kid's ahead of the right one's, a kid's ahead of its own, a wrong name ahead of its kid's.
func TestWhichErrorIsFirst(t *testing.T) {
	areTold(t, map[string]told{
		"what(1) + whatever(2)": no(0, api.ErrName), "rate(1) + what(2)": no(5, api.ErrType), "what(2) + rate(1)": no(0, api.ErrName), "(1 > 2) + what(1)": no(3, api.ErrType), "(1 > 2) > (3 > 4)": no(3, api.ErrType), "1 > (3 > 4)": no(7, api.ErrType), "(1 > 2) > 3": no(3, api.ErrType),
		"a[5t] > rate(1)": no(13, api.ErrType), "a[5t] > b[5t]": no(0, api.ErrType), "1 > on (x) a[5t]": no(11, api.ErrType), "1 > on (x) 2": no(2, api.ErrType),
		"sum(rate(what(1)))": no(9, api.ErrName), "what(rate(what(1)))": no(0, api.ErrName), "rate(sum(what(1)))": no(9, api.ErrName), "rate(sum(1))": no(9, api.ErrType), "rate(-a[5t])": no(6, api.ErrType), "rate(1 > 2)": no(7, api.ErrType), "sum(-what(a[5t]))": no(5, api.ErrName),
		"rate(a[5t] + what(1))": no(13, api.ErrName), "rate(a[5t] + 1)": no(5, api.ErrType), "what(a) + what(b) + what(c)": no(0, api.ErrName), "a + what(b) + what(c)": no(4, api.ErrName), "a[5t] + b + what(c)": no(0, api.ErrType), "a[5t] + b * what(c)": no(12, api.ErrName),
	})
}

// TestPlaces: whatever At is.
func TestPlaces(t *testing.T) {
	for _, at := range []int{0, 1, -1, 600, math.MinInt, math.MaxInt} {
		number := api.Expr{Kind: api.ENum, At: at}
		window := api.Expr{Kind: api.ESel, At: at, Range: 5}
		isTold(t, number, ok(api.Scalar))
		isTold(t, window, ok(api.Ranged))
		isTold(t, api.Expr{Kind: api.ECall, At: at, Name: "what", Kids: []api.Expr{{Kind: api.ENum, At: 7}}}, no(at, api.ErrName))
		isTold(t, api.Expr{Kind: api.ECall, At: 7, Name: "rate", Kids: []api.Expr{number}}, no(at, api.ErrType))
		isTold(t, api.Expr{Kind: api.EAgg, At: 7, Name: "sum", Kids: []api.Expr{window}}, no(at, api.ErrType))
		isTold(t, api.Expr{Kind: api.ENeg, At: 7, Kids: []api.Expr{window}}, no(at, api.ErrType))
		isTold(t, api.Expr{Kind: api.EBin, At: 7, Name: "+", Kids: []api.Expr{window, {Kind: api.ESel, At: 8, Range: 5}}}, no(at, api.ErrType))
		isTold(t, api.Expr{Kind: api.EBin, At: 7, Name: "+", Kids: []api.Expr{{Kind: api.ENum, At: 8}, window}}, no(at, api.ErrType))
		isTold(t, api.Expr{Kind: api.EBin, At: at, Name: ">", Kids: []api.Expr{{Kind: api.ENum, At: 8}, {Kind: api.ENum, At: 9}}}, no(at, api.ErrType))
	}
}

// TestWhatIsNoExpression: ErrText at 0, wherever it is wrong, ahead of all else.
func TestWhatIsNoExpression(t *testing.T) {
	one, window := api.Expr{Kind: api.ENum, At: 5, V: api.Num{N: 1}}, api.Expr{Kind: api.ESel, At: 6, Range: 5}
	wrong := []api.Expr{
		{}, {At: 7}, {Kind: 7, At: 7}, {Kind: 9, At: 7}, {Kind: -1, At: 7}, {Kind: math.MinInt, At: 7}, {Kind: math.MaxInt, At: 7}, {Kind: 1 << 32, At: 7},
		{Kind: api.ENum, At: 7, V: api.Num{N: -1}}, {Kind: api.ENum, At: 7, V: api.Num{Ovf: true}}, {Kind: api.ENum, At: 7, Name: "a"}, {Kind: api.ENum, At: 7, Range: 5}, {Kind: api.ENum, At: 7, Kids: []api.Expr{one}},
		{Kind: api.ESel, At: 7, Range: -1}, {Kind: api.ESel, At: 7, Range: api.MaxRange + 1}, {Kind: api.ESel, At: 7, Match: make([]api.Matcher, 1)}, {Kind: api.ESel, At: 7, Name: "a"}, {Kind: api.ESel, At: 7, Kids: []api.Expr{one}},
		{Kind: api.ECall, At: 7, Name: "rate"}, {Kind: api.ECall, At: 7, Name: "rate", Kids: []api.Expr{window, window}}, {Kind: api.ECall, At: 7, Name: "sum", Kids: []api.Expr{window}}, {Kind: api.ECall, At: 7, Kids: []api.Expr{window}}, {Kind: api.ECall, At: 7, Name: "on", Kids: []api.Expr{window}}, {Kind: api.ECall, At: 7, Name: "rate", Range: 5, Kids: []api.Expr{window}}, {Kind: api.ECall, At: 7, Name: "what "},
		{Kind: api.EAgg, At: 7, Name: "sum"}, {Kind: api.EAgg, At: 7, Name: "rate", Kids: []api.Expr{{Kind: api.ESel}}}, {Kind: api.EAgg, At: 7, Name: "sum", By: true, Without: true, Kids: []api.Expr{{Kind: api.ESel}}}, {Kind: api.EAgg, At: 7, Name: "sum", Names: []string{"a"}, Kids: []api.Expr{{Kind: api.ESel}}},
		{Kind: api.EBin, At: 7, Name: "+"}, {Kind: api.EBin, At: 7, Name: "+", Kids: []api.Expr{one}}, {Kind: api.EBin, At: 7, Name: "+", Kids: []api.Expr{one, one, one}}, {Kind: api.EBin, At: 7, Name: "=", Kids: []api.Expr{one, one}}, {Kind: api.EBin, At: 7, Kids: []api.Expr{one, one}}, {Kind: api.EBin, At: 7, Name: "+", On: true, Ign: true, Kids: []api.Expr{{Kind: api.ESel}, {Kind: api.ESel}}},
		{Kind: api.ENeg, At: 7}, {Kind: api.ENeg, At: 7, Kids: []api.Expr{one, one}}, {Kind: api.ENeg, At: 7, Name: "-", Kids: []api.Expr{one}},
	}
	for _, e := range wrong {
		if expr.Is(e) {
			t.Errorf("P9.1: %+v is an expression", e)
		}
		for _, x := range []api.Expr{
			e, {Kind: api.ENeg, At: 1, Kids: []api.Expr{e}}, {Kind: api.ECall, At: 1, Name: "rate", Kids: []api.Expr{e}}, {Kind: api.ECall, At: 1, Name: "what", Kids: []api.Expr{e}}, {Kind: api.EAgg, At: 1, Name: "sum", Kids: []api.Expr{e}},
			{Kind: api.EBin, At: 1, Name: "+", Kids: []api.Expr{e, one}}, {Kind: api.EBin, At: 1, Name: ">", Kids: []api.Expr{one, e}}, {Kind: api.EBin, At: 1, Name: "+", Kids: []api.Expr{{Kind: api.ECall, At: 2, Name: "what", Kids: []api.Expr{one}}, e}},
		} {
			isTold(t, x, no(0, api.ErrText))
		}
	}
}

// chain: n expressions: a number, and `-` around it.
func chain(n int, last api.Expr) api.Expr {
	for range n - 1 {
		last = api.Expr{Kind: api.ENeg, At: last.At + 1, Kids: []api.Expr{last}}
	}
	return last
}

// comb: n times `+`, from the left, of numbers.
func comb(n int) api.Expr {
	e := api.Expr{Kind: api.ENum}
	for range n {
		e = api.Expr{Kind: api.EBin, Name: "+", Kids: []api.Expr{e, {Kind: api.ENum}}}
	}
	return e
}

// TestHowManyExpressions: 700, as expr's Is has it.
func TestHowManyExpressions(t *testing.T) {
	isTold(t, chain(700, api.Expr{Kind: api.ENum}), ok(api.Scalar))
	isTold(t, chain(701, api.Expr{Kind: api.ENum}), no(0, api.ErrText))
	isTold(t, chain(700, api.Expr{Kind: api.ESel, At: 5, Range: 5}), no(5, api.ErrType))
	isTold(t, chain(701, api.Expr{Kind: api.ESel, At: 5, Range: 5}), no(0, api.ErrText))
	isTold(t, comb(349), ok(api.Scalar))
	isTold(t, comb(350), no(0, api.ErrText))
	isTold(t, chain(1<<16, api.Expr{Kind: api.ENum}), no(0, api.ErrText))
	isTold(t, api.Expr{Kind: api.ENeg, At: 3, Kids: make([]api.Expr, 1<<20)}, no(0, api.ErrText))
}

func TestHorizonOfTexts(t *testing.T) {
	for s, want := range map[string]int{
		"1": api.Lookback, "a": api.Lookback, "1 + 2": api.Lookback, "-a": api.Lookback, "sum(a)": api.Lookback, "{}": api.Lookback,
		"a[1t]": api.Lookback, "a[9t]": api.Lookback, "a[10t]": api.Lookback, "a[11t]": 11, "a[99t]": 99, "a[100t]": 100,
		"rate(a[9t])": api.Lookback, "rate(a[10t])": api.Lookback, "rate(a[11t])": 11, "-rate(a[12t])": 12, "sum by (x) (rate(a[13t]))": 13,
		"delta(a[30t]) + delta(b[70t])": 70, "delta(a[70t]) + delta(b[30t])": 70, "rate(a[5t]) + rate(b[6t])": api.Lookback, "rate(a[5t]) + rate(b[16t])": 16, "rate(a[16t]) + b": 16, "1 + rate(a[16t])": 16, "rate(a[20t]) > rate(b[40t]) * rate(c[30t])": 40, "sum(-(1 + rate(a[17t])))": 17,
		// What has no type looks as far.
		"a[50t] + 1": 50, "1 + a[50t]": 50, "what(a[50t])": 50, "what(a[5t])": api.Lookback, "rate(a) + rate(b[60t])": 60, "1 > 2": api.Lookback, "sum(a[40t])": 40, "-a[41t]": 41, "a[20t] > on (x) b[21t]": 21,
	} {
		e := parsed(t, s)
		was := copied(e)
		if got := Horizon(e); got != want {
			t.Errorf("P9.2: %s: %d for %d", s, got, want)
		}
		if !isEqual(e, was) {
			t.Errorf("P9.2: %s was changed", s)
		}
	}
}

// TestHorizonOfWhatIsNoExpression: the greatest Range all the same.
func TestHorizonOfWhatIsNoExpression(t *testing.T) {
	for _, c := range []struct {
		e    api.Expr
		want int
	}{
		{api.Expr{}, api.Lookback}, {api.Expr{Kind: 9}, api.Lookback}, {api.Expr{Kind: api.EBin}, api.Lookback},
		{api.Expr{Kind: api.ESel, Range: -1}, api.Lookback}, {api.Expr{Kind: api.ESel, Range: math.MinInt}, api.Lookback}, {api.Expr{Kind: api.ESel, Range: 101}, 101}, {api.Expr{Kind: api.ESel, Range: math.MaxInt}, math.MaxInt},
		{api.Expr{Kind: 9, Kids: []api.Expr{{Kind: api.ESel, Range: 20}, {Kind: api.ESel, Range: 30}, {Kind: api.ESel, Range: 25}}}, 30},
		{api.Expr{Kind: api.ESel, Range: 40, Kids: []api.Expr{{Kind: api.ESel, Range: 30}}}, 40}, {api.Expr{Kind: api.ESel, Range: 30, Kids: []api.Expr{{Kind: api.ESel, Range: 40}}}, 40},
		{chain(701, api.Expr{Kind: api.ESel, Range: 50}), 50}, {chain(1<<16, api.Expr{Kind: api.ESel, Range: 50}), 50}, {comb(1 << 15), api.Lookback},
	} {
		if got := Horizon(c.e); got != c.want {
			t.Errorf("P9.2: %+v: %d for %d", c.e.Kind, got, c.want)
		}
	}
}
