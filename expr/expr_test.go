package expr

import (
	"math"
	"math/rand"
	"slices"
	"strconv"
	"strings"
	"testing"

	"spillway/api"
	"spillway/lex"
)

func num(at int, n int64) api.Expr {
	return api.Expr{Kind: api.ENum, At: at, V: api.Num{N: n * api.Scale}}
}
func match(name string, kind int, text string) api.Matcher {
	return api.Matcher{Name: name, Kind: kind, Text: text}
}
func metric(s string) api.Matcher { return match(api.NameLabel, api.MEq, s) }
func sel(at int, m ...api.Matcher) api.Expr {
	return api.Expr{Kind: api.ESel, At: at, Match: m}
}
func name(at int, s string) api.Expr { return sel(at, metric(s)) }
func call(at int, s string, kid api.Expr) api.Expr {
	return api.Expr{Kind: api.ECall, At: at, Name: s, Kids: []api.Expr{kid}}
}
func agg(at int, s string, kid api.Expr) api.Expr {
	return api.Expr{Kind: api.EAgg, At: at, Name: s, Kids: []api.Expr{kid}}
}
func bin(at int, s string, left, right api.Expr) api.Expr {
	return api.Expr{Kind: api.EBin, At: at, Name: s, Kids: []api.Expr{left, right}}
}
func neg(at int, kid api.Expr) api.Expr {
	return api.Expr{Kind: api.ENeg, At: at, Kids: []api.Expr{kid}}
}
func by(e api.Expr, names ...string) api.Expr      { e.By, e.Names = true, names; return e }
func without(e api.Expr, names ...string) api.Expr { e.Without, e.Names = true, names; return e }
func on(e api.Expr, names ...string) api.Expr      { e.On, e.Names = true, names; return e }
func ignoring(e api.Expr, names ...string) api.Expr {
	e.Ign, e.Names = true, names
	return e
}
func ranged(e api.Expr, n int) api.Expr { e.Range = n; return e }

// brackets: the tree of a text, all of it in brackets, told by the tests' own means.
func brackets(t *testing.T, s string) string {
	t.Helper()
	e, at, n := Parse(s)
	if n != api.OK || at != 0 {
		t.Errorf("P8.1: %q: %d, %v", s, at, n)
		return ""
	}
	return blind(e)
}

// told: a tree and its places, outer ones first.
func told(e api.Expr) string {
	s := blind(e)
	var places func(e api.Expr)
	places = func(e api.Expr) {
		s += " " + strconv.Itoa(e.At)
		for _, kid := range e.Kids {
			places(kid)
		}
	}
	places(e)
	return s
}

func isRead(t *testing.T, s string, want api.Expr) {
	t.Helper()
	if e, at, n := Parse(s); n != api.OK || at != 0 || !isEqual(e, want) {
		t.Errorf("P8.2: %q: %s, %d, %v for %s", s, told(e), at, n, told(want))
	}
}

func isRefused(t *testing.T, s string, place int, why api.Errno) {
	t.Helper()
	if e, at, n := Parse(s); n != why || at != place || !isEqual(e, api.Expr{}) {
		t.Errorf("P8.3: %q: %s, %d, %v for %d, %v", s, told(e), at, n, place, why)
	}
}

func isAsModel(t *testing.T, l []api.Token) {
	t.Helper()
	want, wantAt, wantN := modelRead(l)
	e, at, n := Read(l)
	if n != wantN || at != wantAt || !isEqual(e, want) {
		t.Fatalf("P8.3: %q: %s, %d, %v for %s, %d, %v", lex.Print(l...), told(e), at, n, told(want), wantAt, wantN)
	}
}

// P8.1

func TestHowOperatorsBind(t *testing.T) {
	for s, want := range map[string]string{
		"1*2/3*4": "(((1* 2)/ 3)* 4)", "1/2*3": "((1/ 2)* 3)", "1+2-3+4": "(((1+ 2)- 3)+ 4)", "1-2+3": "((1- 2)+ 3)",
		"1>2<3>=4<=5==6!=7": "((((((1> 2)< 3)>= 4)<= 5)== 6)!= 7)", "1!=2==3": "((1!= 2)== 3)",
		"1+2*3": "(1+ (2* 3))", "1*2+3": "((1* 2)+ 3)", "1+2*3-4/5": "((1+ (2* 3))- (4/ 5))", "1>2+3": "(1> (2+ 3))", "1+2>3": "((1+ 2)> 3)",
		"1>2+3*4": "(1> (2+ (3* 4)))", "1*2+3>4": "(((1* 2)+ 3)> 4)", "1==2*3!=4-5": "((1== (2* 3))!= (4- 5))",
		"(1+2)*3": "((1+ 2)* 3)", "1*(2+3)": "(1* (2+ 3))", "1-(2-3)": "(1- (2- 3))", "(1-2)-3": "((1- 2)- 3)", "1/(2/3)": "(1/ (2/ 3))", "1>(2>3)": "(1> (2> 3))", "(1>2)+3": "((1> 2)+ 3)",
		"((1))": "1", "((1)+((2)))": "(1+ 2)", "(((1+2)))*3": "((1+ 2)* 3)",
		"-1": "-1", "--1": "--1", "-1+2": "(-1+ 2)", "-1*2": "(-1* 2)", "1*-2": "(1* -2)", "1--2": "(1- -2)", "1---2": "(1- --2)", "1+-2*3": "(1+ (-2* 3))", "-(1+2)": "-(1+ 2)", "-(-1)": "--1", "1>-2": "(1> -2)", "-1>-2": "(-1> -2)",
		"-f(1)": "-f(1)", "f(-1)": "f(-1)", "sum(-1)": "sum(-1)", "-sum(1)": "-sum(1)", "f(1+2)": "f((1+ 2))", "f(1)+2": "(f(1)+ 2)", "sum(1)*sum(2)": "(sum(1)* sum(2))", "f(g(h(1)))": "f(g(h(1)))", "f((1))": "f(1)",
		"1+on(a)2*3": "(1+ on(a) (2* 3))", "1*on(a)2+3": "((1* on(a) 2)+ 3)", "1+2*on(a)3": "(1+ (2* on(a) 3))", "1-on(a)2-ignoring(b)3": "((1- on(a) 2)- ignoring(b) 3)", "1>on()2>3": "((1> on() 2)> 3)", "1+on(a)-2": "(1+ on(a) -2)", "1*on(a)-2": "(1* on(a) -2)", "1+on(a)(2)": "(1+ on(a) 2)", "1+on(a)(2+3)": "(1+ on(a) (2+ 3))", "1+on(a)f(2)": "(1+ on(a) f(2))", "1+on(a)sum by(b)(2)": "(1+ on(a) sum by(b)(2))",
	} {
		if got := brackets(t, s); got != want {
			t.Errorf("P8.1: %s: %s for %s", s, got, want)
		}
	}
}

// TestPairsOfOperators: the later one takes the middle only if it binds closer.
func TestPairsOfOperators(t *testing.T) {
	how := map[string]int{"+": 1, "-": 1, "*": 2, "/": 2}
	for _, a := range operators {
		for _, b := range operators {
			left, right := "((1"+a+" 2)"+b+" 3)", "(1"+a+" (2"+b+" 3))"
			want := left
			if how[b] > how[a] {
				want = right
			}
			for s, want := range map[string]string{"1" + a + "2" + b + "3": want, "(1" + a + "2)" + b + "3": left, "1" + a + "(2" + b + "3)": right} {
				if got := brackets(t, s); got != want {
					t.Errorf("P8.1: %s: %s for %s", s, got, want)
				}
			}
		}
	}
}

// TestKindsWithinKinds: each kind by itself, and within each other one.
func TestKindsWithinKinds(t *testing.T) {
	one := []struct {
		s string
		e api.Expr
	}{
		{"7", num(0, 7)}, {"x", name(0, "x")}, {"x[5t]", ranged(name(0, "x"), 5)}, {"{}", sel(0)}, {`{a="b"}`, sel(0, match("a", api.MEq, "b"))}, {"f(1)", call(0, "f", num(2, 1))}, {"sum(1)", agg(0, "sum", num(4, 1))}, {"sum by(a)(1)", by(agg(0, "sum", num(10, 1)), "a")}, {"(1+2)", bin(2, "+", num(1, 1), num(3, 2))}, {"(1+on(a)2)", on(bin(2, "+", num(1, 1), num(8, 2)), "a")}, {"-1", neg(0, num(1, 1))},
	}
	moved := func(e api.Expr, by int) api.Expr {
		var move func(e api.Expr) api.Expr
		move = func(e api.Expr) api.Expr {
			e.At += by
			kids := e.Kids
			e.Kids = nil
			for _, kid := range kids {
				e.Kids = append(e.Kids, move(kid))
			}
			return e
		}
		return move(e)
	}
	for _, x := range one {
		isRead(t, x.s, x.e)
		isRead(t, "("+x.s+")", moved(x.e, 1))
		isRead(t, "-"+x.s, neg(0, moved(x.e, 1)))
		isRead(t, "f("+x.s+")", call(0, "f", moved(x.e, 2)))
		isRead(t, "avg("+x.s+")", agg(0, "avg", moved(x.e, 4)))
		isRead(t, "avg without(b)("+x.s+")", without(agg(0, "avg", moved(x.e, 15)), "b"))
		for _, y := range one {
			n := len(x.s)
			isRead(t, x.s+">="+y.s, bin(n, ">=", x.e, moved(y.e, n+2)))
			isRead(t, x.s+"*"+y.s, bin(n, "*", x.e, moved(y.e, n+1)))
			isRead(t, x.s+"-ignoring(b) "+y.s, ignoring(bin(n, "-", x.e, moved(y.e, n+13)), "b"))
		}
	}
}

func TestIdentifiers(t *testing.T) {
	for _, s := range words {
		n := len(s)
		isRead(t, s, name(0, s))
		isRead(t, s+"{}", name(0, s))
		isRead(t, s+" [5t]", ranged(name(0, s), 5))
		isRead(t, "("+s+")", name(1, s))
		isRead(t, "-"+s, neg(0, name(1, s)))
		isRead(t, s+"+"+s, bin(n, "+", name(0, s), name(n+1, s)))
		isRead(t, "f("+s+")", call(0, "f", name(2, s)))
		isRead(t, "sum("+s+")", agg(0, "sum", name(4, s)))
		isRead(t, "sum by("+s+")("+s+")", by(agg(0, "sum", name(9+n, s)), s))
		isRead(t, "1*on("+s+")"+s, on(bin(1, "*", num(0, 1), name(6+n, s)), s))
		isRead(t, "{"+s+`="`+s+`"}`, sel(0, match(s, api.MEq, s)))
		switch {
		case slices.Contains(aggregs, s):
			isRead(t, s+" (1)", agg(0, s, num(n+2, 1)))
			isRead(t, s+" by () (1)", by(agg(0, s, num(n+8, 1))))
			isRead(t, s+" without () (1)", without(agg(0, s, num(n+13, 1))))
			isRead(t, "1/"+s+"(1)", bin(1, "/", num(0, 1), agg(2, s, num(n+3, 1))))
			isRefused(t, s+" on (1)", n+1, api.ErrText)
		case s == "on" || s == "ignoring":
			isRefused(t, s+" (1)", 0, api.ErrText)
			isRefused(t, s+" by () (1)", n+1, api.ErrText)
			isRefused(t, "1/"+s+"(1)", n+3, api.ErrText)
		default:
			isRead(t, s+" (1)", call(0, s, num(n+2, 1)))
			isRead(t, "1/"+s+"(1)", bin(1, "/", num(0, 1), call(2, s, num(n+3, 1))))
			isRefused(t, s+" by () (1)", n+1, api.ErrText)
			isRefused(t, s+" without () (1)", n+1, api.ErrText)
		}
		// By and without are words only behind an aggregate.
		isRefused(t, "x "+s, 2, api.ErrText)
		isRefused(t, "1 "+s+"(a)", 2, api.ErrText)
	}
	isRead(t, "sum+by", bin(3, "+", name(0, "sum"), name(4, "by")))
	isRefused(t, "sum by", 6, api.ErrText)
	isRefused(t, "sum by + 1", 7, api.ErrText)
	isRefused(t, "sum{} by (a) (b)", 6, api.ErrText)
	isRefused(t, "sum\"by\"(a)", 3, api.ErrText)
	isRefused(t, "Sum by (a) (b)", 4, api.ErrText)
	isRead(t, "SUM(b)", call(0, "SUM", name(4, "b")))
	isRead(t, "ON(b)", call(0, "ON", name(3, "b")))
}

func TestWhereModsStand(t *testing.T) {
	for _, op := range operators {
		n := len(op)
		for _, mod := range []string{"on", "ignoring"} {
			set := map[string]func(api.Expr, ...string) api.Expr{"on": on, "ignoring": ignoring}[mod]
			m := len(mod)
			isRead(t, "a"+op+mod+"()b", set(bin(1, op, name(0, "a"), name(n+m+3, "b"))))
			isRead(t, "a"+op+mod+"(x)b", set(bin(1, op, name(0, "a"), name(n+m+4, "b")), "x"))
			isRead(t, "a"+op+mod+" ( x , on,by ) b", set(bin(1, op, name(0, "a"), name(n+m+16, "b")), "x", "on", "by"))
			isRead(t, "a"+op+mod, bin(1, op, name(0, "a"), name(1+n, mod)))
			isRead(t, "a"+op+mod+"{}", bin(1, op, name(0, "a"), name(1+n, mod)))
			isRead(t, "a"+op+"("+mod+")", bin(1, op, name(0, "a"), name(2+n, mod)))
			isRead(t, mod+op+mod+"("+mod+")"+mod, set(bin(m, op, name(0, mod), name(3*m+n+2, mod)), mod))
			isRefused(t, "a"+op+mod+"(x)", n+m+4, api.ErrText)
			isRefused(t, "a"+op+mod+"(x)"+mod+"(y)b", n+m+4, api.ErrText)
			isRefused(t, "a"+op+"-"+mod+"(x)b", n+2, api.ErrText)
			isRefused(t, "a"+op+"("+mod+"(x)b)", n+2, api.ErrText)
			isRefused(t, "a"+op+"f("+mod+"(x)b)", n+3, api.ErrText)
			isRefused(t, mod+"(x)a"+op+"b", 0, api.ErrText)
			isRefused(t, "a "+mod+"(x)"+op+"b", 2, api.ErrText)
			if op == "-" {
				isRead(t, "a-"+mod+"(x)-b", set(bin(1, "-", name(0, "a"), neg(m+5, name(m+6, "b"))), "x"))
			} else {
				isRefused(t, "a"+op+mod+"(x)"+op+"b", n+m+4, api.ErrText)
			}
		}
	}
	isRefused(t, "-on(x)a", 1, api.ErrText)
	isRefused(t, "f(on(x)a)", 2, api.ErrText)
	isRefused(t, "sum(ignoring(x)a)", 4, api.ErrText)
	isRefused(t, "sum on(x)(a)", 4, api.ErrText)
	isRefused(t, "a+on x b", 5, api.ErrText)
	isRefused(t, "a+\"on\"(x) b", 2, api.ErrText)
}

// P8.2

func TestSelectors(t *testing.T) {
	isRead(t, "x", name(0, "x"))
	isRead(t, "{}", sel(0))
	isRead(t, "x{}", name(0, "x"))
	isRead(t, "{}[1t]", ranged(sel(0), 1))
	isRead(t, "x[100t]", ranged(name(0, "x"), 100))
	isRead(t, "x{}[7t]", ranged(name(0, "x"), 7))
	isRead(t, ` x { a = "b" , c != "" , d ^= "e" , f *= "*?" } [ 9t ] `, ranged(sel(1, metric("x"), match("a", api.MEq, "b"), match("c", api.MNe, ""), match("d", api.MPrefix, "e"), match("f", api.MGlob, "*?")), 9))
	isRead(t, `{a="b"}`, sel(0, match("a", api.MEq, "b")))
	isRead(t, `{a="b",a="b"}`, sel(0, match("a", api.MEq, "b"), match("a", api.MEq, "b")))
	isRead(t, `{__name__="x"}`, name(0, "x"))
	isRead(t, `x{__name__="x"}`, sel(0, metric("x"), metric("x")))
	isRead(t, `{__name__*="x",on!="y"}`, sel(0, match(api.NameLabel, api.MGlob, "x"), match("on", api.MNe, "y")))
	isRead(t, `{a="\"\\"}`, sel(0, match("a", api.MEq, `"\`)))
	for i, s := range []string{"=", "!=", "^=", "*="} {
		isRead(t, "{a"+s+`"b"}`, sel(0, match("a", i+1, "b")))
		isRead(t, "x{a"+s+`"b"}`, sel(0, metric("x"), match("a", i+1, "b")))
	}
	for s, place := range map[string]int{
		"{": 1, "x{": 2, "}": 0, "x}": 1, "{,}": 1, "{a": 2, "{a}": 2, "{a=": 3, "{a=}": 3, "{a=b}": 3, "{a=1}": 3, "{a=5t}": 3, `{a="b"`: 6, `{a="b",`: 7, `{a="b",}`: 7, `{a="b",,c="d"}`: 7, `{,a="b"}`: 1, `{a="b" c="d"}`: 7, `{a="b",c}`: 8, `{"a"="b"}`: 1, `{1="b"}`: 1, `{a "b"}`: 3, `{a,}`: 2, `{="b"}`: 1,
		"{a==\"b\"}": 2, "{a>\"b\"}": 2, "{a<=\"b\"}": 2, "{a+\"b\"}": 2, "{a(\"b\")}": 2, `{a= ="b"}`: 4, "{}{}": 2, "x{}{}": 3, "x{}y": 3, "{}x": 2, "{{}}": 1, "{(a=\"b\")}": 1, `{a="b")`: 6, `{a="b"]`: 6, "x(a=\"b\")": 3,
		"x[": 2, "x[]": 2, "x[5]": 2, "x[5t": 4, "x[5t,": 4, "x[5t)": 4, "x[5t 6t]": 5, "x[t]": 2, "x[1.5]": 2, "x[\"5t\"]": 2, "x[-5t]": 2, "x[(5t)]": 2, "x[5t][5t]": 5, "x[5t]{}": 5, "x[5t](a)": 5, "x[5t]5t": 5, "[5t]": 0, "x]": 1, "1[5t]": 1, "(x)[5t]": 3, "f(x)[5t]": 4, "sum(x)[5t]": 6, "x[x[5t]]": 2, "x 5t": 2, "5t": 0,
	} {
		isRefused(t, s, place, api.ErrText)
	}
	isRefused(t, "x[0t]", 2, api.ErrSign)
	isRefused(t, "x[101t]", 2, api.ErrSign)
}

// matchers: n of them, with `,` between.
func matchers(n int) string {
	l := []string{}
	for i := range n {
		l = append(l, "m"+strconv.Itoa(i)+`="v"`)
	}
	return strings.Join(l, ",")
}

func listed(n int) []string {
	l := []string{}
	for i := range n {
		l = append(l, "n"+strconv.Itoa(i))
	}
	return l
}

func TestHowManyMatchers(t *testing.T) {
	for n := range 30 {
		e := sel(0)
		for i := range n {
			e.Match = append(e.Match, match("m"+strconv.Itoa(i), api.MEq, "v"))
		}
		s := "{" + matchers(n) + "}"
		if n <= api.MaxLabels {
			isRead(t, s, e)
		} else {
			isRefused(t, s, len(s)-1, api.ErrMany)
			isRefused(t, s+"[5t", len(s)-1, api.ErrMany)
			isRefused(t, s+")", len(s)-1, api.ErrMany)
		}
		e.Match = slices.Insert(e.Match, 0, metric("x"))
		if n < api.MaxLabels {
			isRead(t, "x"+s, e)
		} else {
			isRefused(t, "x"+s, len(s), api.ErrMany)
		}
		// It is told at the `}`: what can't stand ahead of it comes first.
		if n > 0 {
			isRefused(t, s[:len(s)-1], len(s)-1, api.ErrText)
			isRefused(t, s[:len(s)-1]+",}", len(s), api.ErrText)
			isRefused(t, s[:len(s)-1]+")", len(s)-1, api.ErrText)
		}
	}
	same := strings.Repeat(`a="b",`, api.MaxLabels)
	isRefused(t, "{"+same+`a="b"}`, 1+len(same)+5, api.ErrMany)
	isRead(t, "{"+same[:len(same)-1]+"}", sel(0, slices.Repeat([]api.Matcher{match("a", api.MEq, "b")}, api.MaxLabels)...))
	isRefused(t, `x{__name__="x",`+matchers(7)+"}", 15+len(matchers(7)), api.ErrMany)
	isRead(t, "x[5t]", ranged(name(0, "x"), 5))
}

func TestHowManyNames(t *testing.T) {
	heads := []struct {
		s    string
		tree func(names []string, at int) api.Expr
	}{
		{"sum by (", func(l []string, at int) api.Expr { return by(agg(0, "sum", num(at, 1)), l...) }},
		{"max without (", func(l []string, at int) api.Expr { return without(agg(0, "max", num(at, 1)), l...) }},
		{"2 == on (", func(l []string, at int) api.Expr { return on(bin(2, "==", num(0, 2), num(at, 1)), l...) }},
		{"2 - ignoring (", func(l []string, at int) api.Expr { return ignoring(bin(2, "-", num(0, 2), num(at, 1)), l...) }},
	}
	for _, head := range heads {
		for n := range 30 {
			s := head.s + strings.Join(listed(n), ",") + ")"
			if n <= api.MaxLabels {
				isRead(t, s+"(1)", head.tree(listed(n), len(s)+1))
			} else {
				isRefused(t, s+"(1)", len(s)-1, api.ErrMany)
				isRefused(t, s, len(s)-1, api.ErrMany)
			}
			for i := range n {
				twice := listed(n)
				twice[(i+1)%n] = twice[i]
				s := head.s + strings.Join(twice, ",") + ")"
				if n > 1 {
					isRefused(t, s+"(1)", len(s)-1, api.ErrMany)
					isRefused(t, s[:len(s)-1]+",)(1)", len(s), api.ErrText)
					isRefused(t, s[:len(s)-1], len(s)-1, api.ErrText)
				}
			}
		}
		for s, place := range map[string]int{"": 0, ",": 0, ",)": 0, "a": 1, "a,": 2, "a,)": 2, "a,,b)": 2, "a b)": 2, "1)": 0, "5t)": 0, `"a")`: 0, "a=b)": 1, "(a))": 0, "(": 0, "a(": 1, "a]": 1, "a}": 1, "{a})": 0, "-a)": 0} {
			isRefused(t, head.s+s, len(head.s)+place, api.ErrText)
		}
		isRead(t, head.s+"by,on,sum,__name__)(1)", head.tree([]string{"by", "on", "sum", "__name__"}, len(head.s)+20))
	}
	isRead(t, "sum by (a) (2 + on (a) 1)", by(agg(0, "sum", on(bin(14, "+", num(12, 2), num(23, 1)), "a")), "a"))
}

func TestPlaces(t *testing.T) {
	isRead(t, ` ( x + sum by (a) ( - y [5t] ) ) * f ( 1 ) `, bin(33, "*", bin(5, "+", name(3, "x"), by(agg(7, "sum", neg(20, ranged(name(22, "y"), 5))), "a")), call(35, "f", num(39, 1))))
	isRead(t, "((1))", num(2, 1))
	isRead(t, "((1)+(2))", bin(4, "+", num(2, 1), num(6, 2)))
	isRead(t, "1+2+3", bin(3, "+", bin(1, "+", num(0, 1), num(2, 2)), num(4, 3)))
	isRead(t, "1+2*3", bin(1, "+", num(0, 1), bin(3, "*", num(2, 2), num(4, 3))))
	isRead(t, "-(1)", neg(0, num(2, 1)))
	isRead(t, "- - 1.5", neg(0, neg(2, api.Expr{Kind: api.ENum, At: 4, V: api.Num{N: 1500000}})))
	isRead(t, "0", num(0, 0))
	isRead(t, "9223372036854.775807", api.Expr{Kind: api.ENum, V: api.Num{N: math.MaxInt64}})
}

// P8.3

func TestWhatCantStand(t *testing.T) {
	for s, place := range map[string]int{
		"": 0, " ": 1, "\t\t": 2, ")": 0, "+": 0, "*": 0, "/1": 0, "=": 0, "==1": 0, ",": 0, "[": 0, "]": 0, "^=": 0, "*=": 0, "!=": 0, ">": 0, `""`: 0, "1t": 0, "+1": 0,
		"1 2": 2, "1 x": 2, "x 1": 2, "x y": 2, "x \"y\"": 2, "1\"y\"": 1, "x 5t": 2, "1,2": 1, "x,y": 1, "x=y": 1, "x^=y": 1, "x*=y": 1, "1(2)": 1, "(1)(2)": 3, "f(1)(2)": 4, "f(1)x": 4, "sum(1)by(a)": 6, "(1)x": 3, "-1-": 3, "1 +": 3, "1 + ": 4, "1+*2": 2, "1+/2": 2, "1>>2": 2, "1>=<2": 3, "1-+2": 2, "1=": 1, "1==": 3, "1=2": 1,
		"(": 1, "()": 1, "(1": 2, "(1,2)": 2, "(1]": 2, "(1}": 2, "1)": 1, "(1))": 3, "((1)": 4, "(1+)": 3, "(+1)": 1, "(,1)": 1,
		"f(": 2, "f()": 2, "f(1": 3, "f(1,2)": 3, "f(,1)": 2, "f(1,)": 3, "f 1": 2, "f(1]": 3, "f(1 2)": 4, "f(1+)": 4,
		"sum(": 4, "sum()": 4, "sum(1,2)": 5, "sum by": 6, "sum by a": 7, "sum by (": 8, "sum by ()": 9, "sum by () 1": 10, "sum by () ()": 11, "sum by () by () (1)": 10, "sum by () x (1)": 10, "sum () by (1)": 5, "sum (1) by (a)": 8, "sum by by (1)": 7, "sum by 1": 7, "sum 1": 4, "sum by () (1": 12, "sum by () {}": 10, "sum by () [5t]": 10,
		"-": 1, "--": 2, "-)": 1, "-+1": 1, "-*1": 1, "- by (1) 2": 9, "1-": 2, "1*-": 3,
	} {
		isRefused(t, s, place, api.ErrText)
		isRefused(t, "  "+s, place+2, api.ErrText)
		if place < len(s) {
			isRefused(t, s+" ", place, api.ErrText)
		} else {
			isRefused(t, s+" ", place+1, api.ErrText) // the end is further behind
		}
	}
}

func TestParseOfWhatLexRefuses(t *testing.T) {
	for s, place := range map[string]int{"$": 0, "a $": 2, "a b $": 4, "( $": 2, "1.": 1, "x[0t]": 2, "x[101t]": 2, `{a="`: 3, "a ! b": 2, "01": 0, "a\nb": 1, strings.Repeat("n", 21): 0, `{a="` + strings.Repeat("v", 31) + `"}`: 3, "9999999999999": 0} {
		isRefused(t, s, place, api.ErrSign)
	}
	for _, s := range []string{strings.Repeat(" ", 600) + "1", strings.Repeat("$", 601), strings.Repeat("(", 601), strings.Repeat("1+", 300) + "1", strings.Repeat("a", 1<<20)} {
		isRefused(t, s, 0, api.ErrLong)
	}
	isRead(t, strings.Repeat(" ", 599)+"1", num(599, 1))
	isRefused(t, strings.Repeat(" ", 600), 600, api.ErrText)
	isRefused(t, strings.Repeat(" ", 599)+"$", 599, api.ErrSign)
}

func token(kind, at int, text string) api.Token { return api.Token{Kind: kind, At: at, Text: text} }

func TestReadOfTokens(t *testing.T) {
	one := api.Token{Kind: api.TNum, At: 7, V: api.Num{N: api.Scale}}
	plus, end := token(api.TSign, 9, "+"), token(api.TEnd, 20, "")
	for i, c := range []struct {
		l    []api.Token
		want api.Expr
		at   int
		n    api.Errno
	}{
		{nil, api.Expr{}, 0, api.ErrText},
		{[]api.Token{}, api.Expr{}, 0, api.ErrText},
		{[]api.Token{end}, api.Expr{}, 20, api.ErrText},
		{[]api.Token{end, one}, api.Expr{}, 20, api.ErrText},
		{[]api.Token{one}, num(7, 1), 0, api.OK},
		{[]api.Token{one, end}, num(7, 1), 0, api.OK},
		{[]api.Token{one, plus}, api.Expr{}, 9, api.ErrText},
		{[]api.Token{one, plus, end}, api.Expr{}, 20, api.ErrText},
		{[]api.Token{one, plus, end, one}, api.Expr{}, 20, api.ErrText},
		{[]api.Token{plus}, api.Expr{}, 9, api.ErrText},
		{[]api.Token{one, plus, one}, bin(9, "+", num(7, 1), num(7, 1)), 0, api.OK},
		{[]api.Token{one, plus, one, plus}, api.Expr{}, 9, api.ErrText},
		// What stands behind the end isn't read.
		{[]api.Token{one, end, end}, num(7, 1), 0, api.OK},
		{[]api.Token{one, end, plus, one}, num(7, 1), 0, api.OK},
		{[]api.Token{one, end, token(99, 3, "$")}, num(7, 1), 0, api.OK},
		{[]api.Token{token(api.TIdent, 1, "sum"), end, token(api.TSign, 2, "(")}, name(1, "sum"), 0, api.OK},
		{[]api.Token{token(api.TIdent, 1, "a"), end, token(api.TSign, 2, "[")}, name(1, "a"), 0, api.OK},
		// Kinds count, not texts alone.
		{[]api.Token{token(api.TText, 3, "(")}, api.Expr{}, 3, api.ErrText},
		{[]api.Token{token(api.TIdent, 3, "(")}, name(3, "("), 0, api.OK},
		{[]api.Token{token(api.TSign, 3, "a")}, api.Expr{}, 3, api.ErrText},
		{[]api.Token{token(api.TSign, 3, "")}, api.Expr{}, 3, api.ErrText},
		{[]api.Token{token(-1, 3, "a")}, api.Expr{}, 3, api.ErrText},
		{[]api.Token{token(6, 3, "a")}, api.Expr{}, 3, api.ErrText},
		{[]api.Token{one, token(api.TText, 3, "+"), one}, api.Expr{}, 3, api.ErrText},
		{[]api.Token{one, token(api.TIdent, 3, "+"), one}, api.Expr{}, 3, api.ErrText},
		{[]api.Token{one, token(api.TSign, 3, ""), one}, api.Expr{}, 3, api.ErrText},
		{[]api.Token{one, token(api.TSign, 3, "$"), one}, api.Expr{}, 3, api.ErrText},
		{[]api.Token{one, token(77, 3, ""), one}, api.Expr{}, 3, api.ErrText},
		{[]api.Token{token(api.TIdent, 1, "sum"), token(api.TText, 2, "by"), end}, api.Expr{}, 2, api.ErrText},
		{[]api.Token{token(api.TIdent, 1, "sum"), token(api.TSign, 2, "by"), end}, api.Expr{}, 2, api.ErrText},
		{[]api.Token{token(api.TIdent, 1, "f"), token(api.TText, 2, "("), end}, api.Expr{}, 2, api.ErrText},
		{[]api.Token{one, plus, token(api.TText, 3, "on"), token(api.TSign, 4, "(")}, api.Expr{}, 3, api.ErrText},
		{[]api.Token{token(api.TSign, 1, "{"), token(api.TIdent, 2, "a"), token(api.TSign, 3, ""), token(api.TText, 4, "b"), token(api.TSign, 5, "}")}, api.Expr{}, 3, api.ErrText},
		{[]api.Token{token(api.TSign, 1, "{"), token(api.TIdent, 2, "a"), token(api.TText, 3, "="), token(api.TText, 4, "b"), token(api.TSign, 5, "}")}, api.Expr{}, 3, api.ErrText},
		// Places are those of the tokens, whatever they are.
		{[]api.Token{token(api.TSign, -5, "-"), token(api.TIdent, math.MaxInt, "a")}, neg(-5, name(math.MaxInt, "a")), 0, api.OK},
		{[]api.Token{one, token(api.TEnd, math.MinInt, ""), one}, num(7, 1), 0, api.OK},
		{[]api.Token{plus, token(api.TEnd, math.MinInt, "")}, api.Expr{}, 9, api.ErrText},
		{[]api.Token{token(api.TSign, 9, "("), token(api.TIdent, -3, "a")}, api.Expr{}, -3, api.ErrText},
		// Of a token only what its kind has counts.
		{[]api.Token{{Kind: api.TNum, At: 1, V: api.Num{N: 5}, Text: "x", N: 3}}, api.Expr{Kind: api.ENum, At: 1, V: api.Num{N: 5}}, 0, api.OK},
		{[]api.Token{{Kind: api.TIdent, At: 1, V: api.Num{N: 5}, Text: "x", N: 3}}, name(1, "x"), 0, api.OK},
	} {
		e, at, n := Read(c.l)
		if n != c.n || at != c.at || !isEqual(e, c.want) {
			t.Errorf("P8.3: row %d: %s, %d, %v", i, told(e), at, n)
		}
		isAsModel(t, c.l)
	}
}

// deep: n of each opening sign, then a, then what closes them.
func deep(n int, opening, closing string) string {
	return strings.Repeat(opening, n) + "a" + strings.Repeat(closing, n)
}

func TestHowDeep(t *testing.T) {
	for _, c := range []struct{ opening, closing string }{
		{"(", ")"}, {"-", ""}, {"f(", ")"}, {"sum(", ")"}, {"avg by(b)(", ")"}, {"max without(b,c)(", ")"}, {"1+(", ")"}, {"1*(", ")"}, {"1>=on(b)(", ")"}, {"(1-", ")"}, {"f(1/", "*2)"},
	} {
		for n := range 26 {
			s := deep(n, c.opening, c.closing)
			if n <= api.MaxNest {
				if e, at, why := Parse(s); why != api.OK || at != 0 || !Is(e) {
					t.Errorf("P8.3: %s: %d, %v", s, at, why)
				}
			} else {
				inner := strings.TrimRight(c.opening, "1-+*/>=")
				place := api.MaxNest*len(c.opening) + len(inner)
				if c.opening == "-" {
					place = api.MaxNest + 1
				}
				isRefused(t, s, place, api.ErrDeep)
				isRefused(t, s[:place], place, api.ErrDeep)
				isRefused(t, s[:place]+")", place, api.ErrDeep)
				isRefused(t, s[:place]+"on(a)", place, api.ErrDeep)
				isRefused(t, s[:place]+" 5t", place+1, api.ErrDeep)
				isRefused(t, s[:place]+"$", place, api.ErrSign)
			}
		}
	}
	// Of several kinds together; and what was left isn't counted any more.
	isRefused(t, strings.Repeat("-(f(", 5)+"sum(a", 24, api.ErrDeep)
	isRefused(t, strings.Repeat("-(f(", 5)+"-(a", 21, api.ErrDeep)
	side := "(" + deep(14, "(", ")") + ")"
	for _, s := range []string{side + "+" + side + "*" + side, deep(100, "1*-", ""), deep(100, "-1-", ""), deep(15, "-", "") + "+" + deep(15, "-", ""), deep(15, "f(", ")") + ">" + deep(15, "sum(", ")"), "(" + deep(14, "-", "") + "-" + deep(14, "(", ")") + ")"} {
		if e, at, n := Parse(s); n != api.OK || at != 0 || !Is(e) {
			t.Errorf("P8.3: %s: %d, %v", s, at, n)
		}
	}
	isRefused(t, side+"+("+side+")", len(side)+17, api.ErrDeep)
	// Brackets of names and braces aren't counted.
	isRead(t, deep(15, "(", ")")[:15]+`sum{b="c"}[5t]`+strings.Repeat(")", 15), ranged(sel(15, metric("sum"), match("b", api.MEq, "c")), 5))
	isRead(t, strings.Repeat("(", 15)+"1+on(b)2"+strings.Repeat(")", 15), on(bin(16, "+", num(15, 1), num(22, 2)), "b"))
	isRefused(t, strings.Repeat("(", 15)+"sum by(b)(1", 25, api.ErrDeep)
	isRefused(t, strings.Repeat("(", 15)+"sum by(b,b)(1", 25, api.ErrMany)
	isRefused(t, strings.Repeat("(", 15)+"on(", 15, api.ErrText)
	isRefused(t, strings.Repeat("(", 15)+")", 15, api.ErrText)
}

// TestReadOfMany: what is long isn't nested.
func TestReadOfMany(t *testing.T) {
	const many = 300000
	one, plus := api.Token{Kind: api.TNum, V: api.Num{N: 1}}, token(api.TSign, 5, "+")
	l := []api.Token{one}
	for range many {
		l = append(l, plus, one)
	}
	e, at, n := Read(l)
	if n != api.OK || at != 0 || Is(e) || Print(e) != "" {
		t.Errorf("P8.3: %d, %v", at, n)
	}
	for range many {
		if e.Kind != api.EBin || len(e.Kids) != 2 || e.Kids[1].Kind != api.ENum {
			t.Fatalf("P8.3: %+v", e.Kind)
		}
		e = e.Kids[0]
	}
	if _, at, n := Read(append(l, token(api.TSign, 8, "("))); n != api.ErrText || at != 8 {
		t.Errorf("P8.3: %d, %v", at, n)
	}
	if _, at, n := Read(slices.Repeat([]api.Token{token(api.TSign, 3, "(")}, many)); n != api.ErrDeep || at != 3 {
		t.Errorf("P8.3: %d, %v", at, n)
	}
	names := append([]api.Token{token(api.TIdent, 0, "sum"), token(api.TIdent, 1, "by"), token(api.TSign, 2, "("), token(api.TIdent, 3, "a")}, slices.Repeat([]api.Token{token(api.TSign, 4, ","), token(api.TIdent, 5, "a")}, many)...)
	if _, at, n := Read(append(names, token(api.TSign, 6, ")"))); n != api.ErrMany || at != 6 {
		t.Errorf("P8.3: %d, %v", at, n)
	}
}

// turning: the tokens at which something turns.
func turning() []api.Token {
	l := []api.Token{{Kind: api.TNum, V: api.Num{N: 5}}, {Kind: api.TDur, N: 5}, {Kind: api.TText, Text: "v"}, {Kind: api.TEnd}}
	for _, s := range []string{"a", "sum", "by", "on"} {
		l = append(l, token(api.TIdent, 0, s))
	}
	for _, s := range strings.Fields("( ) { } [ ] , + - * = > !=") {
		l = append(l, token(api.TSign, 0, s))
	}
	return l
}

func placed(l []api.Token) []api.Token {
	l = slices.Clone(l)
	for i := range l {
		l[i].At = 3*i + 1
	}
	return l
}

// TestReadOfAllShortLists: all of up to four tokens at which something turns, by themselves and behind the beginnings of something.
func TestReadOfAllShortLists(t *testing.T) {
	all := turning()
	level := [][]api.Token{{}}
	for range 4 {
		next := [][]api.Token{}
		for _, l := range level {
			for _, x := range all {
				next = append(next, append(slices.Clone(l), x))
			}
		}
		for _, l := range next {
			isAsModel(t, placed(l))
		}
		level = next
	}
	for _, s := range []string{"(", "a{", `a{b="c"`, "a{b", "sum by (", "sum by (a", "1 + on (", "1 + on (a)", "sum by (a) (", "-", "f(1", "a > b *", "(a", "a[5t"} {
		begin, _, _ := lex.Scan(s)
		for _, x := range all {
			for _, y := range all {
				for _, z := range all {
					isAsModel(t, placed(append(slices.Clone(begin[:len(begin)-1]), x, y, z)))
				}
			}
		}
	}
}

func TestReadOfRandomTokens(t *testing.T) {
	r := rand.New(rand.NewSource(81))
	all := turning()
	for range 100000 {
		l := []api.Token{}
		for range r.Intn(20) {
			l = append(l, pick(r, all))
		}
		isAsModel(t, placed(l))
	}
}

// TestReadOfBentTrees: good tokens with one put in, taken out or changed.
func TestReadOfBentTrees(t *testing.T) {
	r := rand.New(rand.NewSource(82))
	all := turning()
	for range 60000 {
		e := randomTree(r, r.Intn(4))
		l, _, n := lex.Scan(loose(r, e, 0))
		if n != api.OK {
			continue // too long
		}
		isAsModel(t, l)
		at, x := r.Intn(len(l)), pick(r, all)
		x.At = 3 * at
		switch r.Intn(3) {
		case 0:
			l = slices.Insert(l, at, x)
		case 1:
			l = slices.Delete(l, at, at+1)
		default:
			l[at] = x
		}
		isAsModel(t, l)
		isAsModel(t, l[:r.Intn(len(l)+1)])
	}
}

func TestTreesAreReadFromLooseTexts(t *testing.T) {
	r := rand.New(rand.NewSource(83))
	read := 0
	for range 60000 {
		e := randomTree(r, r.Intn(5))
		s := loose(r, e, 0)
		if len(s) > api.MaxText {
			isRefused(t, s, 0, api.ErrLong)
			continue
		}
		read++
		if got, at, n := Parse(s); n != api.OK || at != 0 || !isEqualUnplaced(got, e) || !Is(got) {
			t.Fatalf("P8.1: %q: %s, %d, %v for %s", s, blind(got), at, n, blind(e))
		}
	}
	if read < 30000 {
		t.Errorf("P8.1: only %d texts", read)
	}
}

func FuzzParse(f *testing.F) {
	for _, s := range []string{`sum by (job) (rate(x{a="b",c!="d"}[5t])) >= 0.5`, "a + on (b, c) -d * (e - 1)", "", "avg without () (-(-1))", "on+ignoring", "((((((((((((((((a"} {
		f.Add(s)
	}
	f.Fuzz(func(t *testing.T, s string) {
		want, wantAt, wantN := modelParse(s)
		e, at, n := Parse(s)
		if n != wantN || at != wantAt || !isEqual(e, want) {
			t.Fatalf("P8.3: %q: %s, %d, %v for %s, %d, %v", s, told(e), at, n, told(want), wantAt, wantN)
		}
		if n == api.OK {
			isReadAsPrinted(t, e)
		}
	})
}
