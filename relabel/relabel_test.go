package relabel

import (
	"maps"
	"math"
	"math/rand"
	"regexp"
	"slices"
	"strconv"
	"strings"
	"testing"

	"spillway/api"
	"spillway/label"
)

var (
	kinds        = []int{api.MEq, api.MNe, api.MPrefix, api.MGlob}
	otherKinds   = []int{0, -1, 5, 257, math.MinInt, math.MaxInt}
	otherActions = []int{0, -1, 5, 6, -4, 257, math.MinInt, math.MaxInt}
	most         = strings.Repeat("v", api.MaxValue)
)

func pairs(s ...string) []api.Pair {
	l := []api.Pair{}
	for i := 0; i < len(s); i += 2 {
		l = append(l, api.Pair{Name: s[i], Value: s[i+1]})
	}
	return l
}

// many: n pairs, by names.
func many(n int) []api.Pair {
	l := []api.Pair{}
	for i := range n {
		l = append(l, api.Pair{Name: "n" + strconv.Itoa(1000+i), Value: strconv.Itoa(i)})
	}
	return l
}

func matcher(name string, kind int, text string) api.Matcher {
	return api.Matcher{Name: name, Kind: kind, Text: text}
}

func keep(name string, kind int, text string) api.Relabel {
	return api.Relabel{Action: api.AKeep, From: matcher(name, kind, text)}
}

func drop(name string, kind int, text string) api.Relabel {
	return api.Relabel{Action: api.ADrop, From: matcher(name, kind, text)}
}

// replace: where the label from has a value.
func replace(from, target, text string) api.Relabel {
	return api.Relabel{Action: api.AReplace, From: matcher(from, api.MNe, ""), Target: target, Text: text}
}

// always: the same, also where it has none.
func always(from, target, text string) api.Relabel {
	return api.Relabel{Action: api.AReplace, From: matcher(from, api.MGlob, "*"), Target: target, Text: text}
}

func labelDrop(text string) api.Relabel {
	return api.Relabel{Action: api.ALabelDrop, From: api.Matcher{Text: text}}
}

func rules(r ...api.Relabel) []api.Relabel { return r }

// P5.1

func TestIsOfRules(t *testing.T) {
	texts := []string{"", "a", "*", "$", "$$", `"\`, "\r", "\x00", "é", "\xff", most, strings.Repeat("\xff", api.MaxValue), strings.Repeat("$", api.MaxValue)}
	names := []string{"a", "_", "Z9", api.NameLabel, strings.Repeat("n", api.MaxName)}
	for _, text := range texts {
		if !Is(labelDrop(text)) {
			t.Errorf("P5.1: labeldrop of %q is one", text)
		}
		for _, name := range names {
			for _, kind := range kinds {
				for i, r := range rules(keep(name, kind, text), drop(name, kind, text), api.Relabel{Action: api.AReplace, From: matcher(name, kind, text), Target: "to", Text: "z"}, api.Relabel{Action: api.AReplace, From: matcher("a", kind, "x"), Target: name, Text: text}) {
					if !Is(r) {
						t.Errorf("P5.1: %q, kind %d, %q, row %d is one", name, kind, text, i)
					}
				}
			}
		}
	}
}

func TestIsOfTargetAndText(t *testing.T) {
	set := func(r api.Relabel, target, text string) api.Relabel {
		r.Target, r.Text = target, text
		return r
	}
	for i, r := range rules(keep("a", api.MEq, "x"), drop("a", api.MEq, "x"), labelDrop("a*"), labelDrop("")) {
		for _, c := range [][2]string{{"to", ""}, {"", "z"}, {"to", "z"}, {"9", ""}, {"", "\n"}, {" ", ""}, {"", " "}, {"", most + "v"}, {"\x00", ""}, {"", "\x00"}} {
			if !Is(r) || Is(set(r, c[0], c[1])) {
				t.Errorf("P5.1: row %d: a Target %q, a Text %q where there is to be none", i, c[0], c[1])
			}
		}
	}
	from := replace("a", "", "")
	for _, target := range []string{"", "9", "9a", "a b", "a-b", "a\n", " a", "é", "a\xff", "$", strings.Repeat("n", api.MaxName+1), strings.Repeat("n", 100000)} {
		if Is(set(from, target, "")) || Is(set(from, target, "z")) || !Is(set(from, "to", "z")) {
			t.Errorf("P5.1: the Target %.30q", target)
		}
	}
	for _, text := range []string{most + "v", "\n", "a\n", "\na", "a\nb", most[1:] + "\n", strings.Repeat("é", api.MaxValue/2) + "e", strings.Repeat("$", api.MaxValue+1), strings.Repeat("v", 100000)} {
		if Is(set(from, "to", text)) || Is(labelDrop(text)) {
			t.Errorf("P5.1: a Text of %d bytes that none has", len(text))
		}
	}
}

// froms: those that are no matchers.
func froms() []api.Matcher {
	l := []api.Matcher{{}, {Text: "a"}, {Name: "a"}, {Kind: api.MEq}, {Kind: api.MGlob, Text: "*"}}
	for _, kind := range kinds {
		for _, name := range []string{"", "9", "a-b", "a\n", "é", strings.Repeat("n", api.MaxName+1)} {
			l = append(l, matcher(name, kind, "x"))
		}
		for _, text := range []string{most + "v", "\n", "a\nb", strings.Repeat("v", 100000)} {
			l = append(l, matcher("a", kind, text))
		}
	}
	for _, kind := range otherKinds {
		l = append(l, matcher("a", kind, "x"))
	}
	return l
}

func TestIsOfFrom(t *testing.T) {
	for i, from := range froms() {
		for _, r := range rules(api.Relabel{Action: api.AKeep}, api.Relabel{Action: api.ADrop}, api.Relabel{Action: api.AReplace, Target: "to", Text: "z"}) {
			if r.From = from; Is(r) {
				t.Errorf("P5.1: action %d: row %d is no matcher", r.Action, i)
			}
		}
	}
	for _, name := range []string{"a", "9", " ", "\n", api.NameLabel} {
		if Is(api.Relabel{Action: api.ALabelDrop, From: api.Matcher{Name: name, Text: "a"}}) || Is(api.Relabel{Action: api.ALabelDrop, From: api.Matcher{Name: name}}) {
			t.Errorf("P5.1: labeldrop of the name %q", name)
		}
	}
	for _, kind := range slices.Concat(kinds, otherKinds[1:]) {
		if Is(api.Relabel{Action: api.ALabelDrop, From: api.Matcher{Kind: kind, Text: "a"}}) || Is(api.Relabel{Action: api.ALabelDrop, From: api.Matcher{Kind: kind}}) || Is(api.Relabel{Action: api.ALabelDrop, From: matcher("a", kind, "x")}) {
			t.Errorf("P5.1: labeldrop of kind %d", kind)
		}
	}
}

func TestIsOfOtherActions(t *testing.T) {
	for _, action := range otherActions {
		for i, r := range rules(keep("a", api.MEq, "x"), replace("a", "to", "z"), labelDrop("a*"), api.Relabel{}) {
			if r.Action = action; Is(r) {
				t.Errorf("P5.1: action %d, row %d", action, i)
			}
		}
	}
}

// P5.2

// row: what is to come of rules over one set; a nil want of what isn't kept.
type row struct {
	r    []api.Relabel
	want []api.Pair
	e    api.Errno
}

func checkRows(t *testing.T, l []api.Pair, rows []row) {
	t.Helper()
	for i, c := range rows {
		got, kept, e := Apply(l, c.r...)
		if e != c.e || kept != (c.want != nil) || !slices.Equal(got, c.want) {
			t.Errorf("P5.2: row %d: %q, %v, %v; want %q, %v", i, got, kept, e, c.want, c.e)
		}
		if kept && !isSet(got) {
			t.Errorf("P5.4: row %d: %q is no label set", i, got)
		}
	}
}

func TestApplyOfNoRule(t *testing.T) {
	for _, l := range [][]api.Pair{{}, pairs("a", "x"), pairs(api.NameLabel, "up", "a", "x"), many(api.MaxLabels), pairs(strings.Repeat("n", api.MaxName), most)} {
		checkRows(t, l, []row{{nil, l, 0}, {rules(), l, 0}})
	}
	if l, kept, e := Apply(nil); len(l) != 0 || !kept || e != api.OK {
		t.Errorf("P5.2: nothing at all: %v, %v, %v", l, kept, e)
	}
}

func TestApplyOfWhatIsNoRule(t *testing.T) {
	no := []api.Relabel{
		{}, {Action: 5, From: matcher("a", api.MEq, "x")}, {Action: -1}, {Action: api.AKeep}, {Action: api.ADrop, From: matcher("9", api.MNe, "x")},
		{Action: api.AKeep, From: matcher("a", api.MEq, "x"), Target: "to"}, {Action: api.ADrop, From: matcher("a", api.MEq, "q"), Text: "z"},
		replace("a", "", "z"), replace("a", "9", "z"), replace("a", "to", "\n"), replace("nix", "to", most+"v"),
		labelDrop("\n"), labelDrop(most + "v"), {Action: api.ALabelDrop, From: matcher("a", api.MGlob, "a*")}, {Action: api.ALabelDrop, Target: "a"},
	}
	l := pairs("a", "x")
	gone, wide := drop("a", api.MEq, "x"), replace("a", "to", strings.Repeat("$", 30))
	rows := []row{}
	for _, r := range no {
		rows = append(rows, row{rules(r), nil, api.ErrForm}, row{rules(gone, r), nil, api.ErrForm}, row{rules(r, gone), nil, api.ErrForm}, row{rules(wide, replace("to", "to", "$$"), r), nil, api.ErrForm}, row{rules(keep("a", api.MEq, "x"), r, labelDrop("*")), nil, api.ErrForm})
	}
	checkRows(t, l, rows)
	for i, l := range noSets() {
		for _, r := range no {
			if got, kept, e := Apply(l, gone, r); len(got) != 0 || kept || e != api.ErrForm {
				t.Errorf("P5.2: no set %d and no rule: %v, %v, %v", i, got, kept, e)
			}
		}
	}
}

func noSets() [][]api.Pair {
	return [][]api.Pair{
		pairs("9", "x"), pairs("", "x"), pairs("a", ""), pairs("a-b", "x"), pairs("a", "\n"), pairs("a", most+"v"), pairs(strings.Repeat("n", api.MaxName+1), "x"),
		pairs("a", "x", "a", "x"), pairs("a", "x", "a", "y"), pairs("b", "x", "a", "y"), pairs("a", "x", "b", ""), many(api.MaxLabels + 1), many(1000),
	}
}

func TestApplyOfWhatIsNoSet(t *testing.T) {
	for i, l := range noSets() {
		checkRows(t, l, []row{
			{nil, nil, api.ErrLabel}, {rules(keep("a", api.MNe, "q")), nil, api.ErrLabel}, {rules(drop("a", api.MEq, "x")), nil, api.ErrLabel}, {rules(drop("a", api.MNe, "q")), nil, api.ErrLabel},
			{rules(always("a", "a", "z")), nil, api.ErrLabel}, {rules(replace("nix", "a", "z")), nil, api.ErrLabel},
			// What would be a set behind the rule isn't one ahead of it.
			{rules(labelDrop("*")), nil, api.ErrLabel}, {rules(always("a", "b", ""), always("a", "n1008", "")), nil, api.ErrLabel},
		})
		if t.Failed() {
			t.Fatalf("no set %d", i)
		}
	}
}

func TestApplyKeepAndDrop(t *testing.T) {
	l := pairs(api.NameLabel, "up", "a", "xyz", "b", "1")
	for i, c := range []struct {
		m       api.Matcher
		matches bool
	}{
		{matcher("a", api.MEq, "xyz"), true}, {matcher("a", api.MEq, "xy"), false}, {matcher("a", api.MEq, ""), false}, {matcher("a", api.MEq, "$"), false},
		{matcher("a", api.MNe, "xyz"), false}, {matcher("a", api.MNe, "xy"), true}, {matcher("a", api.MNe, ""), true},
		{matcher("a", api.MPrefix, "xy"), true}, {matcher("a", api.MPrefix, "yz"), false}, {matcher("a", api.MPrefix, ""), true}, {matcher("a", api.MPrefix, "x*"), false},
		{matcher("a", api.MGlob, "x*"), true}, {matcher("a", api.MGlob, "?y?"), true}, {matcher("a", api.MGlob, "?y"), false}, {matcher("a", api.MGlob, ""), false},
		{matcher("nix", api.MEq, ""), true}, {matcher("nix", api.MEq, "x"), false}, {matcher("nix", api.MNe, ""), false}, {matcher("nix", api.MNe, "x"), true}, {matcher("nix", api.MPrefix, ""), true}, {matcher("nix", api.MGlob, "*"), true}, {matcher("nix", api.MGlob, "?*"), false},
		{matcher(api.NameLabel, api.MEq, "up"), true}, {matcher(api.NameLabel, api.MEq, "down"), false}, {matcher("b", api.MEq, "1"), true}, {matcher("b", api.MEq, "xyz"), false}, {matcher("A", api.MEq, "xyz"), false},
	} {
		k, d := api.Relabel{Action: api.AKeep, From: c.m}, api.Relabel{Action: api.ADrop, From: c.m}
		kept, dropped := row{rules(k), l, 0}, row{rules(d), nil, 0}
		if !c.matches {
			kept, dropped = row{rules(d), l, 0}, row{rules(k), nil, 0}
		}
		// Rules behind one that drops play no part, and those behind one that keeps do.
		wide := always("a", "to", most)
		longer := replace("to", "to", "$$")
		checkRows(t, l, []row{
			kept, dropped, {slices.Concat(dropped.r, rules(wide, longer)), nil, 0}, {slices.Concat(kept.r, rules(wide, longer)), nil, api.ErrLabel}, {slices.Concat(dropped.r, kept.r), nil, 0}, {slices.Concat(kept.r, dropped.r), nil, 0}, {slices.Concat(kept.r, kept.r, kept.r), l, 0}, {rules(k, d), nil, 0}, {rules(d, k), nil, 0},
			{slices.Concat(kept.r, rules(always("a", "a", "new"))), pairs(api.NameLabel, "up", "a", "new", "b", "1"), 0},
		})
		if t.Failed() {
			t.Fatalf("matcher %d", i)
		}
	}
	checkRows(t, pairs(), []row{{rules(keep("a", api.MEq, "")), pairs(), 0}, {rules(keep("a", api.MNe, "")), nil, 0}, {rules(drop("a", api.MEq, "")), nil, 0}, {rules(drop("a", api.MNe, "")), pairs(), 0}})
}

func TestApplyReplace(t *testing.T) {
	l := pairs(api.NameLabel, "up", "a", "x", "b", "y$z")
	with := func(name, value string) []api.Pair {
		w, e := label.With(l, api.Pair{Name: name, Value: value})
		if e != api.OK {
			t.Fatal(name, value)
		}
		return w
	}
	checkRows(t, l, []row{
		{rules(replace("nix", "to", "z")), l, 0}, {rules(api.Relabel{Action: api.AReplace, From: matcher("a", api.MEq, "y"), Target: "a", Text: "z"}), l, 0}, {rules(api.Relabel{Action: api.AReplace, From: matcher("a", api.MEq, "y"), Target: "b"}), l, 0},
		{rules(replace("a", "to", "z")), with("to", "z"), 0}, {rules(replace("a", "0_", "z")), nil, api.ErrForm}, {rules(replace("a", "A", "z")), with("A", "z"), 0}, {rules(replace("a", "aa", "z")), with("aa", "z"), 0},
		{rules(replace("a", "to", "$")), with("to", "x"), 0}, {rules(replace("a", "to", "-$")), with("to", "-x"), 0}, {rules(replace("a", "to", "$-")), with("to", "x-"), 0}, {rules(replace("a", "to", "$$")), with("to", "xx"), 0}, {rules(replace("a", "to", "$-$.$")), with("to", "x-x.x"), 0},
		{rules(replace("a", "to", `\$`)), with("to", `\x`), 0}, {rules(replace("a", "to", "${a}$1")), with("to", "x{a}x1"), 0},
		{rules(replace("b", "to", "$")), with("to", "y$z"), 0}, {rules(replace("b", "to", "$$")), with("to", "y$zy$z"), 0}, {rules(replace("b", "a", "<$>")), with("a", "<y$z>"), 0},
		{rules(replace("a", "a", "$$")), with("a", "xx"), 0}, {rules(replace("a", "b", "$")), with("b", "x"), 0}, {rules(replace("a", "b", "same")), with("b", "same"), 0},
		{rules(replace(api.NameLabel, api.NameLabel, "new_$")), with(api.NameLabel, "new_up"), 0}, {rules(replace(api.NameLabel, "to", "$")), with("to", "up"), 0}, {rules(replace("a", api.NameLabel, "no name")), with(api.NameLabel, "no name"), 0},
		// The label isn't there: its value is "".
		{rules(always("nix", "to", "$")), l, 0}, {rules(always("nix", "to", "$$$")), l, 0}, {rules(always("nix", "to", "<$>")), with("to", "<>"), 0}, {rules(always("nix", "a", "$")), with("a", ""), 0}, {rules(always("nix", "nix", "$z")), with("nix", "z"), 0},
		// What becomes empty is gone.
		{rules(replace("a", "a", "")), with("a", ""), 0}, {rules(replace("a", "b", "")), with("b", ""), 0}, {rules(replace("a", "to", "")), l, 0}, {rules(replace("a", api.NameLabel, "")), with(api.NameLabel, ""), 0},
		{rules(always("a", "a", ""), always("a", "b", ""), always("a", api.NameLabel, "")), pairs(), 0},
		{rules(replace("a", "to", strings.Repeat("$", 30))), with("to", strings.Repeat("x", 30)), 0}, {rules(replace("a", "to", most)), with("to", most), 0},
		{rules(replace("b", "to", strings.Repeat("$", 10))), with("to", strings.Repeat("y$z", 10)), 0}, {rules(replace("b", "to", strings.Repeat("$", 11))), nil, api.ErrLabel}, {rules(replace("b", "to", strings.Repeat("$", 10)+"-")), nil, api.ErrLabel}, {rules(replace("b", "to", strings.Repeat("$", 30))), nil, api.ErrLabel}, {rules(replace("b", "b", strings.Repeat("$", 11))), nil, api.ErrLabel},
	})
	checkRows(t, pairs("a", most), []row{{rules(replace("a", "b", "$")), pairs("a", most, "b", most), 0}, {rules(replace("a", "b", "$-")), nil, api.ErrLabel}, {rules(replace("a", "b", "$$")), nil, api.ErrLabel}, {rules(replace("a", "a", "-$")), nil, api.ErrLabel}, {rules(replace("a", "a", strings.Repeat("$", 30))), nil, api.ErrLabel}})
	checkRows(t, pairs(), []row{{rules(always("a", "a", "z")), pairs("a", "z"), 0}, {rules(replace("a", "a", "z")), pairs(), 0}, {rules(always("a", "a", "$")), pairs(), 0}})
}

func TestApplyReplaceOfManyLabels(t *testing.T) {
	full := many(api.MaxLabels)
	changed := slices.Clone(full)
	changed[3].Value = "z"
	checkRows(t, full, []row{
		{rules(always("a", "a", "z")), nil, api.ErrLabel}, {rules(always("n1000", "z", "$")), nil, api.ErrLabel}, {rules(always("a", "n1003", "z")), changed, 0}, {rules(always("a", "a", "")), full, 0}, {rules(always("a", "a", "$")), full, 0}, {rules(replace("a", "a", "z")), full, 0},
		// Room is made by the rule ahead, not by the one behind.
		{rules(always("a", "n1000", ""), always("a", "z", "z")), slices.Concat(full[1:], pairs("z", "z")), 0}, {rules(always("a", "z", "z"), always("a", "n1000", "")), nil, api.ErrLabel}, {rules(labelDrop("n1000"), always("a", "z", "z")), slices.Concat(full[1:], pairs("z", "z")), 0}, {rules(always("a", "z", "z"), labelDrop("n1000")), nil, api.ErrLabel}, {rules(always("a", "z", "z"), drop("z", api.MEq, "z")), nil, api.ErrLabel},
	})
	one := many(api.MaxLabels - 1)
	checkRows(t, one, []row{{rules(always("a", "z", "z")), slices.Concat(one, pairs("z", "z")), 0}, {rules(always("a", "z", "z"), always("a", "zz", "z")), nil, api.ErrLabel}})
}

func TestApplyLabelDrop(t *testing.T) {
	l := pairs("A", "0", api.NameLabel, "up", "a", "1", "ab", "2", "b", "3")
	without := func(names ...string) []api.Pair {
		return slices.DeleteFunc(slices.Clone(l), func(p api.Pair) bool { return slices.Contains(names, p.Name) })
	}
	checkRows(t, l, []row{
		{rules(labelDrop("a")), without("a"), 0}, {rules(labelDrop("a*")), without("a", "ab"), 0}, {rules(labelDrop("a?")), without("ab"), 0}, {rules(labelDrop("?")), without("A", "a", "b"), 0}, {rules(labelDrop("*b")), without("ab", "b"), 0},
		{rules(labelDrop("*")), pairs(api.NameLabel, "up"), 0}, {rules(labelDrop("**")), pairs(api.NameLabel, "up"), 0}, {rules(labelDrop("?*")), pairs(api.NameLabel, "up"), 0},
		{rules(labelDrop(api.NameLabel)), l, 0}, {rules(labelDrop("__*")), l, 0}, {rules(labelDrop("*a*")), without("a", "ab"), 0}, {rules(labelDrop("????????")), l, 0}, {rules(labelDrop("_*")), l, 0},
		{rules(labelDrop("")), l, 0}, {rules(labelDrop("nix")), l, 0}, {rules(labelDrop("nix*")), l, 0}, {rules(labelDrop("B")), l, 0}, {rules(labelDrop("abc")), l, 0}, {rules(labelDrop(most)), l, 0}, {rules(labelDrop("$")), l, 0}, {rules(labelDrop("1")), l, 0}, {rules(labelDrop("up")), l, 0}, {rules(labelDrop(strings.Repeat("*", 30))), pairs(api.NameLabel, "up"), 0},
		{rules(labelDrop("a"), labelDrop("b")), without("a", "b"), 0}, {rules(labelDrop("*"), labelDrop("*")), pairs(api.NameLabel, "up"), 0},
	})
	checkRows(t, pairs("a", "1", "b", "2"), []row{{rules(labelDrop("*")), pairs(), 0}, {rules(labelDrop("")), pairs("a", "1", "b", "2"), 0}})
	checkRows(t, pairs(), []row{{rules(labelDrop("*")), pairs(), 0}})
	// A full set, and names like the metric's.
	checkRows(t, many(api.MaxLabels), []row{{rules(labelDrop("n*")), pairs(), 0}, {rules(labelDrop("n1007")), many(api.MaxLabels - 1), 0}})
	checkRows(t, pairs("__name", "1", api.NameLabel, "up", "__name___", "2"), []row{{rules(labelDrop("__name*")), pairs(api.NameLabel, "up"), 0}})
}

func TestApplyOneBehindTheOther(t *testing.T) {
	l := pairs(api.NameLabel, "up", "a", "x", "b", "y")
	checkRows(t, l, []row{
		{rules(replace("a", "c", "$"), replace("c", "d", "$$"), replace("d", "e", "$$")), pairs(api.NameLabel, "up", "a", "x", "b", "y", "c", "x", "d", "xx", "e", "xxxx"), 0},
		{rules(replace("a", "t", "$"), replace("b", "a", "$"), replace("t", "b", "$"), labelDrop("t")), pairs(api.NameLabel, "up", "a", "y", "b", "x"), 0},
		{rules(replace("a", "b", "$"), replace("b", "a", "$")), pairs(api.NameLabel, "up", "a", "x", "b", "x"), 0},
		{rules(labelDrop("a"), replace("a", "c", "z")), pairs(api.NameLabel, "up", "b", "y"), 0}, {rules(replace("a", "c", "z"), labelDrop("a")), pairs(api.NameLabel, "up", "b", "y", "c", "z"), 0},
		{rules(labelDrop("a"), always("a", "b", "<$>")), pairs(api.NameLabel, "up", "b", "<>"), 0},
		{rules(labelDrop("*"), keep("a", api.MEq, "x")), nil, 0}, {rules(keep("a", api.MEq, "x"), labelDrop("*")), pairs(api.NameLabel, "up"), 0}, {rules(labelDrop("*"), drop("a", api.MEq, "x")), pairs(api.NameLabel, "up"), 0}, {rules(labelDrop("*"), keep(api.NameLabel, api.MEq, "up")), pairs(api.NameLabel, "up"), 0},
		{rules(always("a", "a", "z"), keep("a", api.MEq, "z")), pairs(api.NameLabel, "up", "a", "z", "b", "y"), 0}, {rules(always("a", "a", "z"), keep("a", api.MEq, "x")), nil, 0}, {rules(always("a", "a", "z"), drop("a", api.MEq, "z")), nil, 0}, {rules(always("a", "a", ""), drop("a", api.MEq, "")), nil, 0},
		{rules(drop("a", api.MEq, "x"), replace("a", "a", strings.Repeat("$", 30)), replace("a", "a", "$$")), nil, 0}, {rules(replace("a", "a", strings.Repeat("$", 30)), replace("a", "a", "$$"), drop("b", api.MEq, "y")), nil, api.ErrLabel},
		{slices.Repeat(rules(replace("a", "a", "$x")), 29), pairs(api.NameLabel, "up", "a", strings.Repeat("x", 30), "b", "y"), 0}, {slices.Repeat(rules(replace("a", "a", "$x")), 30), nil, api.ErrLabel},
	})
	// As many as there are: the limit of a rule file isn't Apply's.
	long := slices.Repeat(rules(keep("a", api.MEq, "x"), always("a", "c", "z"), drop("a", api.MEq, "y"), labelDrop("c")), 5000)
	checkRows(t, l, []row{{long, l, 0}, {slices.Concat(long, rules(api.Relabel{})), nil, api.ErrForm}, {slices.Concat(long, rules(keep("a", api.MEq, "y"))), nil, 0}})
}

// What is handed in stays as it was, and nothing of it is in the answer.

const spare = "spare"

func roomyPairs(l []api.Pair) []api.Pair {
	return slices.Concat(l, slices.Repeat(pairs(spare, spare), 20))[:len(l)]
}

func roomyRules(r []api.Relabel) []api.Relabel {
	return slices.Concat(r, slices.Repeat(rules(replace(spare, spare, spare)), 20))[:len(r)]
}

func overwrite(l []api.Pair) {
	for i := range l[:cap(l)] {
		l[:cap(l)][i] = api.Pair{Name: "over", Value: "written"}
	}
}

// applyApart: Apply, and that the lists neither change nor share memory with what it answers.
func applyApart(t *testing.T, l []api.Pair, r []api.Relabel) ([]api.Pair, bool, api.Errno) {
	t.Helper()
	l, r = roomyPairs(l), roomyRules(r)
	wasL, wasR := slices.Clone(l[:cap(l)]), slices.Clone(r[:cap(r)])
	intact := func() bool { return slices.Equal(l[:cap(l)], wasL) && slices.Equal(r[:cap(r)], wasR) }
	other, _, _ := Apply(l, r...)
	got, kept, e := Apply(l, r...)
	answer := slices.Clone(got)
	if !intact() || !slices.Equal(other, got) {
		t.Fatalf("P5.2: %q, %v: what was handed in is changed", wasL[:len(l)], r)
	}
	if overwrite(other); !intact() || !slices.Equal(got, answer) {
		t.Fatalf("P5.2: %q, %v: an answer shares memory with what was handed in, or another one", wasL[:len(l)], r)
	}
	if overwrite(l); !slices.Equal(got, answer) {
		t.Fatalf("P5.2: %q, %v: what was handed in is kept in the answer", wasL[:len(wasL)-20], r)
	}
	return answer, kept, e
}

func TestApplyChangesNothing(t *testing.T) {
	for _, l := range [][]api.Pair{{}, pairs("a", "x"), pairs(api.NameLabel, "up", "a", "x", "b", "y"), pairs("b", "y", "a", "x"), many(api.MaxLabels)} {
		for _, r := range [][]api.Relabel{
			nil, rules(keep("a", api.MEq, "x")), rules(keep("a", api.MNe, "x")), rules(drop("a", api.MEq, "x")), rules(drop("a", api.MNe, "x")), rules(replace("nix", "a", "z")),
			rules(always("a", "a", "z")), rules(always("a", "A", "<$>")), rules(always("a", "z", "z")), rules(always("a", "a", "")), rules(replace("a", "a", strings.Repeat("$", 30)), replace("a", "a", "$$")),
			rules(labelDrop("a")), rules(labelDrop("*")), rules(labelDrop("")), rules(api.Relabel{}), rules(keep("a", api.MEq, "x"), always("a", "c", "z"), labelDrop("a"), drop("q", api.MEq, "q")),
		} {
			applyApart(t, l, r)
		}
	}
}

// Another reading of the chapter, by forms and maps.

var nameForm = regexp.MustCompile(`^[A-Za-z_][A-Za-z0-9_]{0,19}$`)

func isValue(s string) bool {
	return len(s) <= 30 && strings.IndexByte(s, '\n') < 0
}

func isSet(l []api.Pair) bool {
	for i, p := range l {
		if !nameForm.MatchString(p.Name) || p.Value == "" || !isValue(p.Value) {
			return false
		}
		if i > 0 && strings.Compare(l[i-1].Name, p.Name) != -1 {
			return false
		}
	}
	return len(l) <= 8
}

func isRule(r api.Relabel) bool {
	m := r.From
	from := nameForm.MatchString(m.Name) && slices.Contains(kinds, m.Kind) && isValue(m.Text)
	return map[int]bool{
		api.AKeep:      from && r == api.Relabel{Action: api.AKeep, From: m},
		api.ADrop:      from && r == api.Relabel{Action: api.ADrop, From: m},
		api.AReplace:   from && nameForm.MatchString(r.Target) && isValue(r.Text),
		api.ALabelDrop: isValue(m.Text) && r == labelDrop(m.Text),
	}[r.Action]
}

func globs(pattern, s string) bool {
	form := strings.NewReplacer(`\*`, `.*`, `\?`, `.`).Replace(regexp.QuoteMeta(pattern))
	return regexp.MustCompile(`(?s)\A(?:` + form + `)\z`).MatchString(s)
}

func matches(m api.Matcher, value string) bool {
	return map[int]bool{api.MEq: value == m.Text, api.MNe: value != m.Text, api.MPrefix: strings.Index(value, m.Text) == 0, api.MGlob: globs(m.Text, value)}[m.Kind]
}

func ofMap(m map[string]string) []api.Pair {
	l := []api.Pair{}
	for _, name := range slices.Sorted(maps.Keys(m)) {
		l = append(l, api.Pair{Name: name, Value: m[name]})
	}
	return l
}

func wantedApply(l []api.Pair, r []api.Relabel) ([]api.Pair, bool, api.Errno) {
	if slices.ContainsFunc(r, func(x api.Relabel) bool { return !isRule(x) }) {
		return nil, false, api.ErrForm
	}
	if !isSet(l) {
		return nil, false, api.ErrLabel
	}
	m := map[string]string{}
	for _, p := range l {
		m[p.Name] = p.Value
	}
	for _, x := range r {
		value := m[x.From.Name]
		match := matches(x.From, value)
		switch {
		case x.Action == api.AKeep && !match, x.Action == api.ADrop && match:
			return nil, false, api.OK
		case x.Action == api.AReplace && match:
			m[x.Target] = strings.Join(strings.Split(x.Text, "$"), value)
		case x.Action == api.ALabelDrop:
			maps.DeleteFunc(m, func(name, _ string) bool { return name != "__name__" && globs(x.From.Text, name) })
		}
		maps.DeleteFunc(m, func(_, value string) bool { return value == "" })
		if !isSet(ofMap(m)) {
			return nil, false, api.ErrLabel
		}
	}
	return ofMap(m), true, api.OK
}

func oneOf(r *rand.Rand, l ...string) string { return l[r.Intn(len(l))] }

func anyName(r *rand.Rand) string {
	return oneOf(r, "a", "b", "c", "d", "e", "ab", "abc", "A", "_", api.NameLabel, api.NameLabel, strings.Repeat("n", 20))
}

func anyText(r *rand.Rand) string {
	return oneOf(r, "", "", "x", "xy", "x*", "*", "?", "?*", "a", "a*", "*b", "$", "$$", "$-$", "$$$$$$$", "<$>", "_*", "__name__", `"`, `\`, `\"`, `"\$`, "up", most)
}

func anySet(r *rand.Rand) []api.Pair {
	m := map[string]string{}
	for range r.Intn(8) {
		m[anyName(r)] = oneOf(r, "x", "xy", "xyz", "up", "$", "a$b", `"\`, most, most[:15])
	}
	for i := 0; i < 8 && len(m) < 8 && r.Intn(4) == 0; i++ {
		m["m"+strconv.Itoa(i)] = "x"
	}
	return ofMap(m)
}

func anyMatcher(r *rand.Rand) api.Matcher {
	return matcher(anyName(r), kinds[r.Intn(4)], anyText(r))
}

// anyRule: mostly what is one, now and then one that a field too many or a wrong one spoils.
func anyRule(r *rand.Rand) api.Relabel {
	x := []api.Relabel{
		{Action: api.AKeep, From: anyMatcher(r)}, {Action: api.ADrop, From: anyMatcher(r)}, labelDrop(anyText(r)),
		{Action: api.AReplace, From: anyMatcher(r), Target: anyName(r), Text: anyText(r)}, always(anyName(r), anyName(r), anyText(r)), replace(anyName(r), anyName(r), anyText(r)),
	}[r.Intn(6)]
	if r.Intn(30) == 0 {
		switch r.Intn(6) {
		case 0:
			x.Action = r.Intn(7) - 1
		case 1:
			x.Target = oneOf(r, "", "9", "a", "a b")
		case 2:
			x.Text = oneOf(r, "", "\n", "z", most+"v")
		case 3:
			x.From.Name = oneOf(r, "", "9", "a", strings.Repeat("n", 21))
		case 4:
			x.From.Kind = r.Intn(7) - 1
		case 5:
			x.From.Text = oneOf(r, "", "\n", "a\nb", most+"v")
		}
	}
	return x
}

func TestApplyOfAny(t *testing.T) {
	r := rand.New(rand.NewSource(51))
	seen := map[string]int{}
	for range 40000 {
		l, x := anySet(r), []api.Relabel{}
		for range r.Intn(7) {
			x = append(x, anyRule(r))
		}
		if r.Intn(30) == 0 && len(l) > 0 {
			l[r.Intn(len(l))] = api.Pair{Name: oneOf(r, "a", "9", ""), Value: oneOf(r, "", "\n", "x", most+"v")}
		}
		want, wantKept, wantE := wantedApply(l, x)
		got, kept, e := applyApart(t, l, x)
		if kept != wantKept || e != wantE || !slices.Equal(got, want) {
			t.Fatalf("P5.2: %q, %+v: %q, %v, %v; want %q, %v, %v", l, x, got, kept, e, want, wantKept, wantE)
		}
		if kept && (!isSet(got) || !label.Is(got)) || !kept && len(got) != 0 {
			t.Fatalf("P5.4: %q, %+v: %q is no label set", l, x, got)
		}
		for _, x := range x {
			if Is(x) != isRule(x) {
				t.Fatalf("P5.1: %+v: %v", x, Is(x))
			}
		}
		seen[strconv.FormatBool(kept)+e.Error()]++
		if kept && !slices.Equal(got, l) {
			seen["changed"]++
		}
	}
	for _, what := range []string{"changed", "true" + api.OK.Error(), "false" + api.OK.Error(), "false" + api.ErrForm.Error(), "false" + api.ErrLabel.Error()} {
		if seen[what] < 1000 {
			t.Errorf("P5.2: too few kinds of answers: %v", seen)
		}
	}
}

// P5.3

func TestPrint(t *testing.T) {
	of := func(action int, kind int) api.Relabel {
		r := api.Relabel{Action: action, From: matcher("job", kind, "a")}
		if action == api.AReplace {
			r.Target, r.Text = "to", "b-$"
		}
		return r
	}
	for want, r := range map[string]api.Relabel{
		`keep job = "a"`: of(api.AKeep, api.MEq), `keep job != "a"`: of(api.AKeep, api.MNe), `keep job ^= "a"`: of(api.AKeep, api.MPrefix), `keep job *= "a"`: of(api.AKeep, api.MGlob),
		`drop job = "a"`: of(api.ADrop, api.MEq), `drop job != "a"`: of(api.ADrop, api.MNe), `drop job ^= "a"`: of(api.ADrop, api.MPrefix), `drop job *= "a"`: of(api.ADrop, api.MGlob),
		`replace job = "a" to "b-$"`: of(api.AReplace, api.MEq), `replace job != "a" to "b-$"`: of(api.AReplace, api.MNe), `replace job ^= "a" to "b-$"`: of(api.AReplace, api.MPrefix), `replace job *= "a" to "b-$"`: of(api.AReplace, api.MGlob),
		`labeldrop "a*"`: labelDrop("a*"), `labeldrop ""`: labelDrop(""), `keep a = ""`: keep("a", api.MEq, ""), `replace a != "" a ""`: replace("a", "a", ""),
		`keep __name__ = "up"`: keep(api.NameLabel, api.MEq, "up"), `replace a *= "*" __name__ "$"`: always("a", api.NameLabel, "$"),
		`keep a = "\""`: keep("a", api.MEq, `"`), `keep a = "\\"`: keep("a", api.MEq, `\`), `drop a = "\\\""`: drop("a", api.MEq, `\"`), `drop a = "\"\\"`: drop("a", api.MEq, `"\`), `labeldrop "\\\\"`: labelDrop(`\\`), `labeldrop "x\"\"y"`: labelDrop(`x""y`),
		`replace a != "" to "$\\\"$"`: replace("a", "to", `$\"$`), `replace a *= "\"*\\" to "\\"`: {Action: api.AReplace, From: matcher("a", api.MGlob, `"*\`), Target: "to", Text: `\`},
		"keep a = \"\t\x00\r\xffé '`\"": keep("a", api.MEq, "\t\x00\r\xffé '`"), `keep a = " = b "`: keep("a", api.MEq, " = b "), `labeldrop " "`: labelDrop(" "),
		`labeldrop "` + most + `"`: labelDrop(most), `labeldrop "` + strings.Repeat(`\"`, 30) + `"`: labelDrop(strings.Repeat(`"`, 30)), `keep a = "` + strings.Repeat(`\\`, 30) + `"`: keep("a", api.MEq, strings.Repeat(`\`, 30)),
	} {
		if got := Print(r); got != want {
			t.Errorf("P5.3: %s, want %s", got, want)
		}
	}
}

func TestPrintOfWhatIsNoRule(t *testing.T) {
	no := rules(api.Relabel{}, replace("a", "", "z"), replace("a", "9", "z"), replace("a", "to", "\n"), replace("a", "to", most+"v"), labelDrop("\n"), labelDrop(most+"v"),
		api.Relabel{Action: api.ALabelDrop, Target: "a"}, api.Relabel{Action: api.ALabelDrop, Text: "a"}, api.Relabel{Action: api.ALabelDrop, From: matcher("a", api.MEq, "x")}, api.Relabel{Action: api.ALabelDrop, From: api.Matcher{Kind: api.MGlob, Text: "a"}}, api.Relabel{Action: api.ALabelDrop, From: api.Matcher{Name: "a", Text: "a"}},
		api.Relabel{Action: api.AKeep, From: matcher("a", api.MEq, "x"), Target: "a"}, api.Relabel{Action: api.ADrop, From: matcher("a", api.MEq, "x"), Text: "a"})
	for _, from := range froms() {
		no = append(no, api.Relabel{Action: api.AKeep, From: from}, api.Relabel{Action: api.ADrop, From: from}, api.Relabel{Action: api.AReplace, From: from, Target: "to", Text: "z"})
	}
	for _, action := range otherActions {
		no = append(no, api.Relabel{Action: action, From: matcher("a", api.MEq, "x")}, api.Relabel{Action: action, From: api.Matcher{Text: "x"}})
	}
	for i, r := range no {
		if got := Print(r); got != "" || Is(r) {
			t.Errorf("P5.3: row %d is no rule: %q", i, got)
		}
	}
}

var (
	kinded = map[string]int{"=": api.MEq, "!=": api.MNe, "^=": api.MPrefix, "*=": api.MGlob}
	named  = map[string]int{"keep": api.AKeep, "drop": api.ADrop, "replace": api.AReplace}
	line   = regexp.MustCompile(`\A(keep|drop|replace) (\w+) ([=!^*]=?) "((?:[^"\\]|\\["\\])*)"(?: (\w+) "((?:[^"\\]|\\["\\])*)")?\z`)
	glob   = regexp.MustCompile(`\Alabeldrop "((?:[^"\\]|\\["\\])*)"\z`)
)

// readBack: the rule of which s is the text.
func readBack(t *testing.T, s string) api.Relabel {
	t.Helper()
	plain := strings.NewReplacer(`\\`, `\`, `\"`, `"`).Replace
	if g := glob.FindStringSubmatch(s); g != nil {
		return labelDrop(plain(g[1]))
	}
	g := line.FindStringSubmatch(s)
	if g == nil {
		t.Fatalf("P5.3: %q is the text of no rule", s)
	}
	return api.Relabel{Action: named[g[1]], From: matcher(g[2], kinded[g[3]], plain(g[4])), Target: g[5], Text: plain(g[6])}
}

func TestPrintOfAny(t *testing.T) {
	r := rand.New(rand.NewSource(53))
	for range 20000 {
		x := anyRule(r)
		s := Print(x)
		if (s != "") != isRule(x) {
			t.Fatalf("P5.3: %+v: %q", x, s)
		}
		if s != "" && readBack(t, s) != x {
			t.Fatalf("P5.3: %+v: %q", x, s)
		}
	}
}

// P5.4

// All sets of up to three labels and all two of these rules, those that make values of any length and any number of labels among them.
func TestNothingButSetsComesOut(t *testing.T) {
	values := []string{"", "x", "a\\\"$", most}
	r := rules(keep("a", api.MNe, "x"), drop("b", api.MEq, "x"), always("a", "a", "$$"), always("a", "b", "$z"), always("b", "zz", most), always("b", api.NameLabel, "$"), replace("b", "c", "\x00\xff$"), labelDrop("?"), labelDrop(api.NameLabel), labelDrop("n*"))
	for _, full := range [][]api.Pair{nil, many(5), many(6)} {
		for i := range len(values) * len(values) * len(values) {
			l, e := label.With(full, api.Pair{Name: api.NameLabel, Value: values[i%4]}, api.Pair{Name: "a", Value: values[i/4%4]}, api.Pair{Name: "b", Value: values[i/16]})
			if e != api.OK {
				continue
			}
			for _, first := range r {
				for _, second := range r {
					got, kept, e := Apply(l, first, second)
					if kept && (e != api.OK || !isSet(got)) || !kept && len(got) > 0 || e != api.OK && e != api.ErrLabel {
						t.Fatalf("P5.4: %q, %v, %v: %q, %v, %v", l, first, second, got, kept, e)
					}
				}
			}
		}
	}
}
