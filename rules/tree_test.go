package rules

import (
	"fmt"
	"math"
	"math/rand"
	"strings"
	"testing"

	"spillway/api"
	"spillway/expr"
)

func parsedExpr(t *testing.T, s string) api.Expr {
	t.Helper()
	e, at, why := expr.Parse(s)
	if why != api.OK {
		t.Fatalf("%q: %d, %v", s, at, why)
	}
	return e
}

// isOne: Is and Print tell whether c is, by the model too; and nothing is changed.
func isOne(t *testing.T, c api.Config, want bool) {
	t.Helper()
	c = roomyConfig(c)
	was := allOf(c)
	if got := Is(c); got != want || modelIs(c) != want {
		t.Errorf("P10.2: Is %v, the model %v, for %v: %s", got, modelIs(c), want, told(c))
	}
	text := ""
	if want {
		text = fileText(c)
	}
	if got := Print(c); got != text {
		t.Errorf("P10.2: %q for %q", got, text)
	}
	if !Same(c, c) || !Same(was, was) {
		t.Errorf("P10.2: %s isn't the same", told(c))
	}
	if !isEqual(allOf(c), was) {
		t.Errorf("P10.2: %s was changed", told(c))
	}
}

// isReadBack: what is printed of c, which is one, is read as the same; or it is too long, or nested too deep.
func isReadBack(t *testing.T, c api.Config) {
	t.Helper()
	s := Print(c)
	got := parse(s)
	at, why := unread(c, s)
	if got.at != at || got.why != why {
		t.Errorf("P10.3: %q: %v at %d, for %v at %d", s, got.why, got.at, why, at)
	}
	if why == api.OK && (!Same(got.c, c) || !Same(c, got.c) || !isAlike(got.c, c) || Print(got.c) != s) {
		t.Errorf("P10.3: %q is read as %s", s, told(got.c))
	}
}

// unread: where s, which is printed of c, is too long, or an expression in it is, or nested too deep.
func unread(c api.Config, s string) (int, api.Errno) {
	if len(s) > api.MaxFile {
		return 0, api.ErrLong
	}
	lines := strings.SplitAfter(s, "\n")
	end := len(strings.Join(lines[:len(c.Relabels)], ""))
	lines = lines[len(c.Relabels):]
	for _, g := range c.Groups {
		end += len(lines[0])
		lines = lines[1:]
		for _, r := range g.Rules {
			end += len(lines[0])
			lines = lines[1:]
			text := expr.Print(r.E)
			if _, at, why := expr.Parse(text); why == api.ErrLong || why == api.ErrDeep {
				return end - 1 - len(text) + at, why
			}
		}
	}
	return 0, api.OK
}

func oneRule(e api.Expr, static ...api.Pair) api.Config {
	return api.Config{Groups: []api.Group{{Name: "g", Every: 1, Rules: []api.Rule{{Record: "r", E: e, Static: static}}}}}
}

// full: as many of all as there may be, every field of it told.
func full(t *testing.T) api.Config {
	t.Helper()
	c := api.Config{}
	for i := range api.MaxRelabels {
		c.Relabels = append(c.Relabels, []api.Relabel{
			{Action: api.AKeep, From: api.Matcher{Name: "a", Kind: api.MEq, Text: "x"}}, {Action: api.ADrop, From: api.Matcher{Name: "b", Kind: api.MNe, Text: "y"}},
			{Action: api.AReplace, From: api.Matcher{Name: "c", Kind: api.MGlob, Text: "*"}, Target: "to", Text: "$"}, {Action: api.ALabelDrop, From: api.Matcher{Text: "z*"}},
		}[i%4])
	}
	for i := range api.MaxGroups {
		g := api.Group{Name: fmt.Sprint("g", i), Every: 1 + i}
		for j := range api.MaxRules {
			e := parsedExpr(t, `sum by (a, b) (rate(x{c="d"}[5t])) + on (a) -y * 2`)
			g.Rules = append(g.Rules, api.Rule{Record: fmt.Sprint("r", j), E: e, Static: []api.Pair{{Name: "k", Value: "v"}, {Name: "l", Value: "w"}}})
		}
		c.Groups = append(c.Groups, g)
	}
	return c
}

// turn: one thing of a config that full gives, made another.
type turn struct {
	what string
	is   bool // it is a config still
	do   func(c *api.Config)
}

func rule(c *api.Config) *api.Rule { return &c.Groups[2].Rules[7] }

func turnsOfLists() []turn {
	return []turn{
		{"no relabel rules", true, func(c *api.Config) { c.Relabels = nil }}, {"a relabel rule less", true, func(c *api.Config) { c.Relabels = c.Relabels[:5] }}, {"one more", false, func(c *api.Config) { c.Relabels = append(c.Relabels, c.Relabels[0]) }}, {"many", false, func(c *api.Config) { c.Relabels = make([]api.Relabel, 1000) }},
		{"no groups", true, func(c *api.Config) { c.Groups = nil }}, {"a group less", true, func(c *api.Config) { c.Groups = c.Groups[:2] }}, {"the first one less", true, func(c *api.Config) { c.Groups = c.Groups[1:] }}, {"one more", false, func(c *api.Config) { c.Groups = append(c.Groups, api.Group{Name: "more", Every: 1}) }}, {"others first", true, func(c *api.Config) { c.Groups[0], c.Groups[2] = c.Groups[2], c.Groups[0] }},
		{"no rules", true, func(c *api.Config) { c.Groups[1].Rules = nil }}, {"a rule less", true, func(c *api.Config) { c.Groups[1].Rules = c.Groups[1].Rules[:7] }}, {"one more", false, func(c *api.Config) { c.Groups[1].Rules = append(c.Groups[1].Rules, c.Groups[1].Rules[0]) }}, {"one more of the last", false, func(c *api.Config) { c.Groups[2].Rules = append(c.Groups[2].Rules, c.Groups[1].Rules[0]) }}, {"others first", true, func(c *api.Config) {
			l := c.Groups[1].Rules
			l[0], l[1] = l[1], l[0]
		}},
		{"relabel rules' order", true, func(c *api.Config) { c.Relabels[0], c.Relabels[1] = c.Relabels[1], c.Relabels[0] }},
	}
}

func turnsOfRelabels() []turn {
	return []turn{
		{"none", false, func(c *api.Config) { c.Relabels[5] = api.Relabel{} }}, {"none first", false, func(c *api.Config) { c.Relabels[0] = api.Relabel{} }},
		{"Action", true, func(c *api.Config) { c.Relabels[0].Action = api.ADrop }}, {"Action", false, func(c *api.Config) { c.Relabels[0].Action = 5 }}, {"Action", false, func(c *api.Config) { c.Relabels[0].Action = api.AReplace }},
		{"From.Name", true, func(c *api.Config) { c.Relabels[0].From.Name = "aa" }}, {"From.Name", false, func(c *api.Config) { c.Relabels[0].From.Name = "9" }}, {"From.Kind", true, func(c *api.Config) { c.Relabels[0].From.Kind = api.MPrefix }}, {"From.Kind", false, func(c *api.Config) { c.Relabels[0].From.Kind = 0 }}, {"From.Text", true, func(c *api.Config) { c.Relabels[0].From.Text = "" }}, {"From.Text", false, func(c *api.Config) { c.Relabels[0].From.Text = "\n" }},
		{"Target", true, func(c *api.Config) { c.Relabels[2].Target = "too" }}, {"Target", false, func(c *api.Config) { c.Relabels[2].Target = "" }}, {"Target", false, func(c *api.Config) { c.Relabels[0].Target = "to" }}, {"Text", true, func(c *api.Config) { c.Relabels[2].Text = "" }}, {"Text", false, func(c *api.Config) { c.Relabels[2].Text = strings.Repeat("v", 31) }}, {"Text", false, func(c *api.Config) { c.Relabels[0].Text = "$" }},
	}
}

func turnsOfGroups() []turn {
	out := []turn{
		{"none", false, func(c *api.Config) { c.Groups[2] = api.Group{} }}, {"a name that was there", false, func(c *api.Config) { c.Groups[2].Name = c.Groups[0].Name }}, {"a name that comes", false, func(c *api.Config) { c.Groups[0].Name = c.Groups[1].Name }}, {"a name that was there", false, func(c *api.Config) { c.Groups[2].Name = c.Groups[1].Name }},
	}
	for _, name := range []string{"a", "every", "G0", strings.Repeat("n", 20)} {
		out = append(out, turn{"Name " + name, true, func(c *api.Config) { c.Groups[1].Name = name }})
	}
	for _, name := range []string{"", "9", "a b", "a\n", " ", "é", "\xff", strings.Repeat("n", 21), "g every 1\ngroup h"} {
		out = append(out, turn{"Name " + name, false, func(c *api.Config) { c.Groups[1].Name = name }})
	}
	for _, every := range []int{1, 19, api.MaxEvery} {
		out = append(out, turn{fmt.Sprint("Every ", every), true, func(c *api.Config) { c.Groups[2].Every = every }})
	}
	for _, every := range []int{0, -1, -20, api.MaxEvery + 1, 1 << 32, 1<<32 + 1, math.MinInt, math.MaxInt} {
		out = append(out, turn{fmt.Sprint("Every ", every), false, func(c *api.Config) { c.Groups[2].Every = every }})
	}
	return out
}

func turnsOfRules() []turn {
	out := []turn{{"none", false, func(c *api.Config) { *rule(c) = api.Rule{} }}, {"none first", false, func(c *api.Config) { c.Groups[0].Rules[0] = api.Rule{} }}, {"no Static", true, func(c *api.Config) { rule(c).Static = nil }}}
	for _, record := range []string{"a", "record", "r0", api.NameLabel, strings.Repeat("n", 20)} {
		out = append(out, turn{"Record " + record, true, func(c *api.Config) { rule(c).Record = record }})
	}
	for _, record := range []string{"", "9", "a b", "a\n", " ", "é", "a{}", strings.Repeat("n", 21), strings.Repeat("n", 31), "r = 1\nrecord s"} {
		out = append(out, turn{"Record " + record, false, func(c *api.Config) { rule(c).Record = record }})
	}
	few := []api.Pair{{Name: "a", Value: "1"}, {Name: "b", Value: "2"}, {Name: "c", Value: "3"}, {Name: "d", Value: "4"}, {Name: "e", Value: "5"}, {Name: "f", Value: "6"}, {Name: "g", Value: "7"}}
	for _, static := range [][]api.Pair{few, few[:1], {{Name: "k", Value: "w"}, {Name: "l", Value: "w"}}, {{Name: "kk", Value: "v"}, {Name: "l", Value: "w"}}, {{Name: "a", Value: strings.Repeat("v", 30)}}, {{Name: "a", Value: ` = "\`}}, {{Name: "__name", Value: "x"}}} {
		out = append(out, turn{fmt.Sprint("Static ", static), true, func(c *api.Config) { rule(c).Static = static }})
	}
	for _, static := range [][]api.Pair{
		append(list(few), api.Pair{Name: "h", Value: "8"}), append(list(few), api.Pair{Name: "h", Value: "8"}, api.Pair{Name: "i", Value: "9"}), make([]api.Pair, 1000), {{}}, {{Name: "a"}}, {{Value: "a"}}, {{Name: "9", Value: "a"}}, {{Name: "a", Value: "\n"}}, {{Name: "a", Value: strings.Repeat("v", 31)}}, {{Name: strings.Repeat("n", 21), Value: "v"}},
		{{Name: "b", Value: "1"}, {Name: "a", Value: "1"}}, {{Name: "a", Value: "1"}, {Name: "a", Value: "1"}}, {{Name: "a", Value: "1"}, {Name: "a", Value: "2"}},
		{{Name: api.NameLabel, Value: "x"}}, {{Name: api.NameLabel, Value: "r7"}}, {{Name: api.NameLabel, Value: "9"}}, {{Name: api.NameLabel}}, {{Name: api.NameLabel, Value: "x"}, {Name: "a", Value: "b"}}, {{Name: "A", Value: "b"}, {Name: api.NameLabel, Value: "x"}},
	} {
		out = append(out, turn{fmt.Sprint("Static ", static), false, func(c *api.Config) { rule(c).Static = static }})
	}
	return out
}

// turnsOfExprs: of an expression's own fields, and of others for it.
func turnsOfExprs(t *testing.T) []turn {
	t.Helper()
	out := []turn{
		{"none", false, func(c *api.Config) { rule(c).E = api.Expr{} }}, {"Kind", false, func(c *api.Config) { rule(c).E.Kind = 9 }}, {"V", false, func(c *api.Config) { rule(c).E.V = api.Num{N: 1} }}, {"Name", true, func(c *api.Config) { rule(c).E.Name = "-" }}, {"Name", false, func(c *api.Config) { rule(c).E.Name = "=" }}, {"Match", false, func(c *api.Config) { rule(c).E.Match = make([]api.Matcher, 1) }}, {"Range", false, func(c *api.Config) { rule(c).E.Range = 5 }}, {"By", false, func(c *api.Config) { rule(c).E.By = true }}, {"Without", false, func(c *api.Config) { rule(c).E.Without = true }}, {"On", false, func(c *api.Config) { rule(c).E.On = false }}, {"Ign", false, func(c *api.Config) { rule(c).E.Ign = true }}, {"Names", true, func(c *api.Config) { rule(c).E.Names = nil }}, {"Kids", false, func(c *api.Config) { rule(c).E.Kids = rule(c).E.Kids[:1] }}, {"a kid of a kid", false, func(c *api.Config) { rule(c).E.Kids[0].Kids[0].Name = "what" }}, {"its Range", true, func(c *api.Config) { rule(c).E.Kids[0].Kids[0].Kids[0].Range = 100 }}, {"its Range", false, func(c *api.Config) { rule(c).E.Kids[0].Kids[0].Kids[0].Range = 0 }}, {"its Range", false, func(c *api.Config) { rule(c).E.Kids[0].Kids[0].Kids[0].Range = 101 }}, {"its Match", true, func(c *api.Config) { rule(c).E.Kids[0].Kids[0].Kids[0].Match[1].Text = "e" }}, {"a number", true, func(c *api.Config) { rule(c).E.Kids[1].Kids[1].V.N = 7 }}, {"a number", false, func(c *api.Config) { rule(c).E.Kids[1].Kids[1].V.N = -7 }},
	}
	for _, text := range []string{"1", "a", "-a", "sum(a)", "a > 1", "rate(a[5t])", "{}", "r7"} {
		e := parsedExpr(t, text)
		out = append(out, turn{text, true, func(c *api.Config) { rule(c).E = e }})
	}
	for _, text := range []string{"a[5t]", "{}[1t]", "1 > 2", "rate(a)", "what(a[5t])", "sum(1)", "-a[5t]", "1 + on () 2"} {
		e := parsedExpr(t, text)
		out = append(out, turn{text, false, func(c *api.Config) { rule(c).E = e }})
	}
	return out
}

// TestTurned: with one thing of it made another a config is one or not, and isn't the same in any case.
func TestTurned(t *testing.T) {
	isOne(t, full(t), true)
	for _, turns := range [][]turn{turnsOfLists(), turnsOfRelabels(), turnsOfGroups(), turnsOfRules(), turnsOfExprs(t)} {
		for _, x := range turns {
			c := full(t)
			x.do(&c)
			isOne(t, c, x.is)
			if Same(c, full(t)) || Same(full(t), c) {
				t.Errorf("P10.2: %s: the same as ever", x.what)
			}
			if x.is {
				isReadBack(t, c)
			}
			if t.Failed() {
				t.Fatalf("P10.2: %s", x.what)
			}
		}
	}
}

// TestPlaces: they count for nothing, wherever they stand.
func TestPlaces(t *testing.T) {
	var place func(e *api.Expr, at int)
	place = func(e *api.Expr, at int) {
		e.At = at
		for i := range e.Kids {
			place(&e.Kids[i], at)
		}
	}
	for _, at := range []int{0, 1, -1, 3000, math.MinInt, math.MaxInt} {
		c := full(t)
		for _, g := range c.Groups {
			for i := range g.Rules {
				place(&g.Rules[i].E, at)
			}
		}
		isOne(t, c, true)
		if !Same(c, full(t)) || !Same(full(t), c) || Print(c) != Print(full(t)) {
			t.Errorf("P10.2: a place of %d counts", at)
		}
		c = full(t)
		c.Groups[1].Rules[3].E.Kids[0].Kids[0].At = at
		if !Same(c, full(t)) || !Same(full(t), c) {
			t.Errorf("P10.2: a kid's place of %d counts", at)
		}
	}
	a, b := isFine(t, one+"record r = a+b"), isFine(t, "#\n"+one+"#\nrecord r =   (a   +  b )")
	if !Same(a, b) || isEqual(a, b) {
		t.Errorf("P10.2: %s, %s", told(a), told(b))
	}
}

// TestSameOfWhatIsNone: field by field, too; a nil list is an empty one.
func TestSameOfWhatIsNone(t *testing.T) {
	empty := api.Config{Relabels: []api.Relabel{}, Groups: []api.Group{}}
	if !Same(api.Config{}, empty) || !Same(empty, api.Config{}) || !Is(api.Config{}) || !Is(empty) || Print(empty) != "" {
		t.Error("P10.2: of nothing")
	}
	bare, listed := oneRule(api.Expr{Kind: api.ENum}), oneRule(api.Expr{Kind: api.ENum, Match: []api.Matcher{}, Names: []string{}, Kids: []api.Expr{}}, []api.Pair{}...)
	listed.Groups[0].Rules[0].Static = []api.Pair{}
	if !Same(bare, listed) || !Same(listed, bare) || !Is(listed) || Print(bare) != Print(listed) {
		t.Error("P10.2: of empty lists")
	}
	none := []api.Config{
		{Relabels: make([]api.Relabel, 1)}, {Relabels: make([]api.Relabel, 2)}, {Relabels: []api.Relabel{{Action: 9}}}, {Groups: make([]api.Group, 1)}, {Groups: make([]api.Group, 2)}, {Groups: []api.Group{{Name: "9"}}}, {Groups: []api.Group{{Every: -1}}}, {Groups: []api.Group{{Rules: make([]api.Rule, 1)}}}, {Groups: []api.Group{{Rules: make([]api.Rule, 9)}}},
		{Groups: []api.Group{{Rules: []api.Rule{{Record: "9"}}}}}, {Groups: []api.Group{{Rules: []api.Rule{{Static: make([]api.Pair, 1)}}}}}, {Groups: []api.Group{{Rules: []api.Rule{{Static: []api.Pair{{Name: "a"}}}}}}}, {Groups: []api.Group{{Rules: []api.Rule{{Static: []api.Pair{{Value: "a"}}}}}}}, {Groups: []api.Group{{Rules: []api.Rule{{E: api.Expr{Kind: 9}}}}}}, {Groups: []api.Group{{Rules: []api.Rule{{E: api.Expr{Kids: make([]api.Expr, 1)}}}}}},
	}
	for i, c := range none {
		isOne(t, c, false)
		for j, d := range none {
			if Same(c, d) != (i == j) || Same(copied(c), d) != (i == j) {
				t.Errorf("P10.2: rows %d and %d", i, j)
			}
		}
	}
}

// TestGreatConfigs: whatever is handed over, it comes back.
func TestGreatConfigs(t *testing.T) {
	chain := api.Expr{Kind: api.ENum}
	for range 699 {
		chain = api.Expr{Kind: api.ENeg, Kids: []api.Expr{chain}}
	}
	isOne(t, oneRule(chain), true)
	isReadBack(t, oneRule(chain))
	isOne(t, oneRule(api.Expr{Kind: api.ENeg, Kids: []api.Expr{chain}}), false)
	wide := api.Expr{Kind: api.ENeg, Kids: make([]api.Expr, 1<<16)}
	isOne(t, oneRule(wide), false)
	around := api.Expr{Kind: api.ENeg, Kids: make([]api.Expr, 1)}
	around.Kids[0] = around
	if c := oneRule(around); Is(c) || Print(c) != "" {
		t.Error("P10.2: what is its own kid")
	}
	for range 1 << 15 {
		chain = api.Expr{Kind: api.ENeg, Kids: []api.Expr{chain}}
	}
	if c := oneRule(chain); Is(c) || Print(c) != "" || !Same(c, oneRule(chain)) {
		t.Error("P10.2: what is nested deep")
	}
	many := api.Config{Groups: make([]api.Group, 1<<17)}
	if Is(many) || Print(many) != "" || !Same(many, many) {
		t.Error("P10.2: many groups")
	}
	long := oneRule(api.Expr{Kind: api.ENum}, make([]api.Pair, 1<<17)...)
	if Is(long) || Print(long) != "" {
		t.Error("P10.2: many labels")
	}
}

func TestPrint(t *testing.T) {
	c := isFine(t, "#all\n\nkeep a = \"b\"\ndrop c != \"\\\"\"\nreplace a ^= \"\" to \"$\"\nlabeldrop \"*\"\n#\ngroup g every 20\nrecord r =   1+2*3\nrecord s{a=\" = \",b=\"\\\\\"} = sum by(a)(rate(x{}[5t]))>-y\n\ngroup h every 1\ngroup i every 7\nrecord r = {a=\"b\"}")
	want := "keep a = \"b\"\ndrop c != \"\\\"\"\nreplace a ^= \"\" to \"$\"\nlabeldrop \"*\"\ngroup g every 20\nrecord r = (1 + (2 * 3))\nrecord s{a=\" = \",b=\"\\\\\"} = (sum by (a) (rate(x[5t])) > -y)\ngroup h every 1\ngroup i every 7\nrecord r = {a=\"b\"}\n"
	if got := Print(c); got != want {
		t.Errorf("P10.2: %q", got)
	}
	isReadBack(t, c)
	for _, s := range []string{"group a every 2\n", "keep job = \"a\"\n", "group a every 2\nrecord r = up\n", ""} {
		if got := Print(isFine(t, s)); got != s {
			t.Errorf("P10.3: %q: %q", s, got)
		}
	}
}

// TestReadBack: what any config prints; what is too long as a file, as an expression, what is nested too deep in print.
func TestReadBack(t *testing.T) {
	r := rand.New(rand.NewSource(104))
	long := 0
	for range 5000 {
		c := randomConfig(r)
		isOne(t, c, true)
		isReadBack(t, c)
		if len(Print(c)) > api.MaxFile {
			long++
		}
		if t.Failed() {
			t.Fatalf("P10.3: %q", Print(c))
		}
	}
	if long > 1000 {
		t.Errorf("%d of 5000 configs are too long to be read", long)
	}
	begin := len(one) + len("record r = ")
	for n, want := range map[int]parsedFile{15: {}, 16: {at: begin + 16, why: api.ErrDeep}, 20: {at: begin + 16, why: api.ErrDeep}, 99: {at: begin + 16, why: api.ErrDeep}, 100: {at: begin, why: api.ErrLong}, 299: {at: begin, why: api.ErrLong}} {
		c := isFine(t, one+"record r = 1"+strings.Repeat("+1", n))
		isReadBack(t, c)
		if got := parse(Print(c)); got.at != want.at || got.why != want.why {
			t.Errorf("P10.3: %d times +: %v at %d", n, got.why, got.at)
		}
	}
}

// TestReadBackOfLongFiles: byte by byte up to MaxFile, and beyond.
func TestReadBackOfLongFiles(t *testing.T) {
	c := full(t)
	records := []*string{}
	for _, g := range c.Groups {
		for i := range g.Rules {
			long := strings.Repeat("v", api.MaxValue)
			g.Rules[i] = api.Rule{Record: "r", E: api.Expr{Kind: api.ENum}, Static: []api.Pair{{Name: "a", Value: long}, {Name: "b", Value: long}, {Name: "c", Value: long[1:]}}}
			records = append(records, &g.Rules[i].Record)
		}
	}
	c.Relabels = nil
	seen := map[int]api.Errno{}
	for _, record := range records {
		for len(*record) < api.MaxName {
			*record += "r"
			isOne(t, c, true)
			isReadBack(t, c)
			seen[len(Print(c))] = parse(Print(c)).why
		}
	}
	for n, why := range seen {
		if (why == api.OK) != (n <= api.MaxFile) {
			t.Errorf("P10.3: %d bytes: %v", n, why)
		}
	}
	for _, n := range []int{api.MaxFile - 1, api.MaxFile, api.MaxFile + 1} {
		if _, ok := seen[n]; !ok {
			t.Errorf("no file of %d bytes", n)
		}
	}
}

// TestBent: one thing of any config made wrong, as the model has it.
func TestBent(t *testing.T) {
	r := rand.New(rand.NewSource(105))
	counts := map[bool]int{}
	for range 5000 {
		c := randomConfig(r)
		bendConfig(r, &c)
		is := modelIs(c)
		isOne(t, c, is)
		counts[is]++
		if t.Failed() {
			t.Fatalf("P10.2: %s", told(c))
		}
	}
	if counts[true] < 500 || counts[false] < 500 {
		t.Errorf("too few of a kind: %v", counts)
	}
}

func bendConfig(r *rand.Rand, c *api.Config) {
	if len(c.Relabels) > 0 && r.Intn(3) == 0 {
		x := &c.Relabels[r.Intn(len(c.Relabels))]
		pick(r, func() { x.Action = r.Intn(7) - 1 }, func() { x.From.Kind = r.Intn(7) - 1 }, func() { x.From.Name = pick(r, "", "9", "ok") }, func() { x.Target = pick(r, "", "9", "ok") }, func() { x.Text = pick(r, "", "\n", "ok") })()
		return
	}
	if len(c.Groups) == 0 {
		c.Relabels = append(c.Relabels, randomRelabel(r), randomRelabel(r))
		return
	}
	g := &c.Groups[r.Intn(len(c.Groups))]
	if len(g.Rules) == 0 || r.Intn(3) == 0 {
		pick(r, func() { g.Every = r.Intn(24) - 2 }, func() { g.Name = pick(r, "", "9", "ok", c.Groups[0].Name) }, func() { c.Groups = append(c.Groups, api.Group{Name: pick(r, "new", g.Name), Every: 1}) }, func() { g.Rules = append(g.Rules, oneRule(api.Expr{Kind: api.ENum}).Groups[0].Rules...) })()
		return
	}
	x := &g.Rules[r.Intn(len(g.Rules))]
	pick(r, func() { x.Record = pick(r, "", "9", "ok") }, func() {
		x.Static = append(x.Static, api.Pair{Name: pick(r, "zzzzzzzzzzzzzzzzzzzzz", "a", api.NameLabel, "zz"), Value: pick(r, "", "ok")})
	}, func() { x.E.Range = pick(r, 0, 5, -1) }, func() { x.E.Kind = r.Intn(8) }, func() { x.E = api.Expr{Kind: api.ESel, Range: r.Intn(2)} })()
}
