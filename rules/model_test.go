package rules

import (
	"fmt"
	"math/rand"
	"reflect"
	"regexp"
	"slices"
	"strconv"
	"strings"

	"spillway/api"
	"spillway/expr"
	"spillway/types"
)

// The model: lines by regular expressions. It shares nothing with the program but expr and types, for what stands behind ` = `.

const (
	formName = `([A-Za-z_][A-Za-z0-9_]{0,19})`
	formText = `"((?:[^"\\\n]|\\["\\])*)"`
	formPair = `[A-Za-z_][A-Za-z0-9_]{0,19}="(?:[^"\\\n]|\\["\\])+"`
)

var (
	formChoice  = regexp.MustCompile(`^(keep|drop) ` + formName + ` (=|!=|\^=|\*=) ` + formText + `$`)
	formReplace = regexp.MustCompile(`^replace ` + formName + ` (=|!=|\^=|\*=) ` + formText + ` ` + formName + ` ` + formText + `$`)
	formDrop    = regexp.MustCompile(`^labeldrop ` + formText + `$`)
	formGroup   = regexp.MustCompile(`^group ` + formName + ` every ([1-9]|1[0-9]|20)$`)
	formRecord  = regexp.MustCompile(`^record ` + formName + `(?:\{(` + formPair + `(?:,` + formPair + `)*)\})? = (.*)$`)
	formOne     = regexp.MustCompile(`(` + formName + `)=` + formText)
	isNameForm  = regexp.MustCompile(`^` + formName + `$`)
)

var signs = []string{"=", "!=", "^=", "*="}

var kindOfSign = map[string]int{"=": api.MEq, "!=": api.MNe, "^=": api.MPrefix, "*=": api.MGlob}

var unescaped = strings.NewReplacer(`\\`, `\`, `\"`, `"`).Replace

var escaped = strings.NewReplacer(`\`, `\\`, `"`, `\"`).Replace

func quoted(s string) string { return `"` + escaped(s) + `"` }

// parsedFile: what Parse answers.
type parsedFile struct {
	c   api.Config
	at  int
	why api.Errno
}

func parse(s string) parsedFile {
	c, at, why := Parse(s)
	return parsedFile{c, at, why}
}

func modelled(s string) parsedFile {
	if len(s) > 3000 {
		return parsedFile{why: api.ErrLong}
	}
	c := api.Config{}
	for begin := 0; begin < len(s); {
		line, _, _ := strings.Cut(s[begin:], "\n")
		if at, why := modelLine(&c, line); why != 0 {
			return parsedFile{at: begin + at, why: why}
		}
		begin += len(line) + 1
	}
	return parsedFile{c: c}
}

func modelLine(c *api.Config, line string) (int, api.Errno) {
	if line == "" || strings.HasPrefix(line, "#") {
		return 0, 0
	}
	if r, ok := modelRelabel(line); ok {
		if len(c.Groups) > 0 {
			return 0, api.ErrForm
		}
		c.Relabels = append(c.Relabels, r)
		return 0, manyIf(len(c.Relabels) > 6)
	}
	if m := formGroup.FindStringSubmatch(line); m != nil {
		if len(c.Groups) == 3 {
			return 0, api.ErrMany
		}
		if slices.ContainsFunc(c.Groups, func(g api.Group) bool { return g.Name == m[1] }) {
			return 0, api.ErrTwice
		}
		every, _ := strconv.Atoi(m[2])
		c.Groups = append(c.Groups, api.Group{Name: m[1], Every: every})
		return 0, 0
	}
	return modelRecord(c, line)
}

func manyIf(b bool) api.Errno {
	if b {
		return api.ErrMany
	}
	return 0
}

func modelRelabel(line string) (api.Relabel, bool) {
	r := api.Relabel{}
	if m := formChoice.FindStringSubmatch(line); m != nil {
		r = api.Relabel{Action: map[string]int{"keep": api.AKeep, "drop": api.ADrop}[m[1]], From: api.Matcher{Name: m[2], Kind: kindOfSign[m[3]], Text: unescaped(m[4])}}
	} else if m := formReplace.FindStringSubmatch(line); m != nil {
		r = api.Relabel{Action: api.AReplace, From: api.Matcher{Name: m[1], Kind: kindOfSign[m[2]], Text: unescaped(m[3])}, Target: m[4], Text: unescaped(m[5])}
	} else if m := formDrop.FindStringSubmatch(line); m != nil {
		r = api.Relabel{Action: api.ALabelDrop, From: api.Matcher{Text: unescaped(m[1])}}
	}
	return r, r.Action != 0 && len(r.From.Text) <= 30 && len(r.Text) <= 30
}

func modelRecord(c *api.Config, line string) (int, api.Errno) {
	m := formRecord.FindStringSubmatch(line)
	if m == nil || len(c.Groups) == 0 {
		return 0, api.ErrForm
	}
	r := api.Rule{Record: m[1]}
	for _, p := range formOne.FindAllStringSubmatch(m[2], -1) {
		r.Static = append(r.Static, api.Pair{Name: p[1], Value: unescaped(p[3])})
	}
	if !isStatic(r.Static) {
		return 0, api.ErrForm
	}
	g := &c.Groups[len(c.Groups)-1]
	if len(g.Rules) == 8 {
		return 0, api.ErrMany
	}
	e, at, why := expr.Parse(m[3])
	if why == 0 {
		at, why = types.Rule(e)
	}
	if why != 0 {
		return len(line) - len(m[3]) + at, why
	}
	r.E = e
	g.Rules = append(g.Rules, r)
	return 0, 0
}

func isStatic(l []api.Pair) bool {
	for i, p := range l {
		if p.Name == "__name__" || len(p.Value) == 0 || len(p.Value) > 30 || strings.Contains(p.Value, "\n") || !isNameForm.MatchString(p.Name) || i > 0 && l[i-1].Name >= p.Name {
			return false
		}
	}
	return len(l) <= 7
}

// modelIs: Is, said by what the model's file of it would be, but for how long it is.
func modelIs(c api.Config) bool {
	if len(c.Relabels) > 6 || len(c.Groups) > 3 {
		return false
	}
	for _, r := range c.Relabels {
		if back, ok := modelRelabel(relabelText(r)); !ok || back != r {
			return false
		}
	}
	seen := map[string]int{}
	for _, g := range c.Groups {
		seen[g.Name]++
		if seen[g.Name] > 1 || !isNameForm.MatchString(g.Name) || g.Every < 1 || g.Every > 20 || len(g.Rules) > 8 {
			return false
		}
		for _, r := range g.Rules {
			is, _, why := types.Of(r.E)
			if !isNameForm.MatchString(r.Record) || !isStatic(r.Static) || why != 0 || is == api.Ranged {
				return false
			}
		}
	}
	return true
}

// relabelText: of whatever it is, without asking.
func relabelText(r api.Relabel) string {
	sign := "?"
	for s, kind := range kindOfSign {
		if kind == r.From.Kind {
			sign = s
		}
	}
	condition := r.From.Name + " " + sign + " " + quoted(r.From.Text)
	switch r.Action {
	case api.AKeep:
		return "keep " + condition
	case api.ADrop:
		return "drop " + condition
	case api.AReplace:
		return "replace " + condition + " " + r.Target + " " + quoted(r.Text)
	case api.ALabelDrop:
		return "labeldrop " + quoted(r.From.Text)
	}
	return ""
}

// fileText: of a config that is one.
func fileText(c api.Config) string {
	s := ""
	for _, r := range c.Relabels {
		s += relabelText(r) + "\n"
	}
	for _, g := range c.Groups {
		s += fmt.Sprintf("group %s every %d\n", g.Name, g.Every)
		for _, r := range g.Rules {
			pairs := []string{}
			for _, p := range r.Static {
				pairs = append(pairs, p.Name+"="+quoted(p.Value))
			}
			braces := ""
			if len(pairs) > 0 {
				braces = "{" + strings.Join(pairs, ",") + "}"
			}
			s += fmt.Sprintf("record %s%s = %s\n", r.Record, braces, expr.Print(r.E))
		}
	}
	return s
}

// What is held against what.

// told: the beginning of what x is.
func told(x any) string {
	s := fmt.Sprintf("%+v", x)
	return s[:min(len(s), 300)]
}

// list: a copy, nil of an empty one.
func list[T any](l []T) []T { return append([]T(nil), l...) }

func copiedExpr(e api.Expr) api.Expr {
	e.Match, e.Names, e.Kids = list(e.Match), list(e.Names), list(e.Kids)
	for i := range e.Kids {
		e.Kids[i] = copiedExpr(e.Kids[i])
	}
	return e
}

// copied: a config that shares no list with c, its empty lists nil.
func copied(c api.Config) api.Config {
	c.Relabels, c.Groups = list(c.Relabels), list(c.Groups)
	for i := range c.Groups {
		g := &c.Groups[i]
		g.Rules = list(g.Rules)
		for j := range g.Rules {
			r := &g.Rules[j]
			r.Static, r.E = list(r.Static), copiedExpr(r.E)
		}
	}
	return c
}

// isEqual: in every field, places too.
func isEqual(a, b api.Config) bool { return reflect.DeepEqual(copied(a), copied(b)) }

func unplacedExpr(e api.Expr) api.Expr {
	e.At = 0
	for i := range e.Kids {
		e.Kids[i] = unplacedExpr(e.Kids[i])
	}
	return e
}

// isAlike: in every field but places.
func isAlike(a, b api.Config) bool {
	a, b = copied(a), copied(b)
	for _, c := range []api.Config{a, b} {
		for _, g := range c.Groups {
			for i := range g.Rules {
				g.Rules[i].E = unplacedExpr(g.Rules[i].E)
			}
		}
	}
	return reflect.DeepEqual(a, b)
}

// room: from where to where in memory a list lies, its spare room too.
type room struct{ from, to uintptr }

// rooms: of all lists that hang on v.
func rooms(v reflect.Value) []room {
	out := []room{}
	switch v.Kind() {
	case reflect.Slice:
		if v.Cap() > 0 {
			out = append(out, room{v.Pointer(), v.Pointer() + uintptr(v.Cap())*v.Type().Elem().Size()})
		}
		for i := range v.Len() {
			out = append(out, rooms(v.Index(i))...)
		}
	case reflect.Struct:
		for i := range v.NumField() {
			out = append(out, rooms(v.Field(i))...)
		}
	}
	return out
}

// isApart: no two lists share memory.
func isApart(v ...any) bool {
	all := []room{}
	for _, x := range v {
		all = append(all, rooms(reflect.ValueOf(x))...)
	}
	slices.SortFunc(all, func(a, b room) int { return int(a.from) - int(b.from) })
	for i := 1; i < len(all); i++ {
		if all[i].from < all[i-1].to {
			return false
		}
	}
	return true
}

// roomy: l with room behind it in which something lies.
func roomy[T any](l []T, behind ...T) []T { return append(list(l), behind...)[:len(l)] }

func roomyExpr(e api.Expr) api.Expr {
	kids := []api.Expr{}
	for _, kid := range e.Kids {
		kids = append(kids, roomyExpr(kid))
	}
	e.Match, e.Names, e.Kids = roomy(e.Match, api.Matcher{Name: "behind"}), roomy(e.Names, "behind"), roomy(kids, api.Expr{Kind: api.ENum})
	return e
}

// roomyConfig: c with such room behind each list.
func roomyConfig(c api.Config) api.Config {
	c = copied(c)
	for i := range c.Groups {
		g := &c.Groups[i]
		for j := range g.Rules {
			r := &g.Rules[j]
			r.Static, r.E = roomy(r.Static, api.Pair{Name: "behind"}), roomyExpr(r.E)
		}
		g.Rules = roomy(g.Rules, api.Rule{Record: "behind"})
	}
	c.Relabels, c.Groups = roomy(c.Relabels, api.Relabel{Target: "behind"}), roomy(c.Groups, api.Group{Name: "behind"})
	return c
}

func all[T any](l []T) []T { return list(l[:cap(l)]) }

func allExpr(e api.Expr) api.Expr {
	e.Match, e.Names, e.Kids = all(e.Match), all(e.Names), all(e.Kids)
	for i := range e.Kids {
		e.Kids[i] = allExpr(e.Kids[i])
	}
	return e
}

// allOf: a copy of c with what lies in the room behind each list in it.
func allOf(c api.Config) api.Config {
	c.Relabels, c.Groups = all(c.Relabels), all(c.Groups)
	for i := range c.Groups {
		g := &c.Groups[i]
		g.Rules = all(g.Rules)
		for j := range g.Rules {
			r := &g.Rules[j]
			r.Static, r.E = all(r.Static), allExpr(r.E)
		}
	}
	return c
}

// What is made at random.

func pick[T any](r *rand.Rand, l ...T) T { return l[r.Intn(len(l))] }

func randomName(r *rand.Rand) string {
	return pick(r, "a", "b", "c", "g", "every", "group", "record", "keep", "_9", "Z", "NAME", strings.Repeat("n", 20))
}

func randomText(r *rand.Rand) string {
	s := ""
	for range r.Intn(5) {
		s += pick(r, "a", " = ", `"`, `\`, " ", "{", "}", ",", "#", "*", "$", "\t", "é", "\xff", "\x00", "\r", "xyz")
	}
	return s
}

func randomRelabel(r *rand.Rand) api.Relabel {
	from := api.Matcher{Name: randomName(r), Kind: 1 + r.Intn(4), Text: randomText(r)}
	switch r.Intn(4) {
	case 0:
		return api.Relabel{Action: api.AKeep, From: from}
	case 1:
		return api.Relabel{Action: api.ADrop, From: from}
	case 2:
		return api.Relabel{Action: api.AReplace, From: from, Target: randomName(r), Text: randomText(r)}
	}
	return api.Relabel{Action: api.ALabelDrop, From: api.Matcher{Text: from.Text}}
}

// randomVector: the text of a Vector, or nearly so.
func randomVector(r *rand.Rand, deep int) string {
	if deep == 0 {
		return pick(r, "a", "up", `x{a="b = c"}`, `{}`, `{b!="\"\\"}`, "rate(a[5t])", "max_over_time({}[100t])", "group", "record", "on")
	}
	switch r.Intn(5) {
	case 0:
		return "-" + randomVector(r, deep-1)
	case 1:
		return pick(r, "sum", "max by (a)", "avg without (a,b)") + " (" + randomVector(r, deep-1) + ")"
	case 2:
		return "(" + randomVector(r, deep-1) + pick(r, " + ", "*", ">", " == ", " - on(a) ", "/ignoring ()") + randomVector(r, deep-1) + ")"
	case 3:
		return pick(r, "1 + ", "0.5*", "2 >=") + randomVector(r, deep-1)
	}
	return randomVector(r, deep-1) + pick(r, " + 1", "/3", " < 4.25")
}

// randomExpr: one that can be a rule's.
func randomExpr(r *rand.Rand) api.Expr {
	for {
		e, _, why := expr.Parse(randomExprText(r))
		if why == 0 {
			_, why = types.Rule(e)
		}
		if why == 0 {
			return e
		}
	}
}

func randomExprText(r *rand.Rand) string {
	if r.Intn(5) == 0 {
		return pick(r, "1", "0", "-2.5", "1 + 2*3", " 7 ", "\t8")
	}
	return randomVector(r, r.Intn(4))
}

func randomStatic(r *rand.Rand) []api.Pair {
	l := []api.Pair{}
	for _, name := range []string{"Z", "_a", "a", "b", "c", "job", strings.Repeat("z", 20)} {
		if value := randomText(r); r.Intn(3) == 0 && value != "" {
			l = append(l, api.Pair{Name: name, Value: value})
		}
	}
	return l
}

// randomConfig: one that is.
func randomConfig(r *rand.Rand) api.Config {
	c := api.Config{}
	for range r.Intn(7) {
		c.Relabels = append(c.Relabels, randomRelabel(r))
	}
	for i := range r.Intn(4) {
		g := api.Group{Name: randomName(r)[:1] + strconv.Itoa(i), Every: 1 + r.Intn(20)}
		for range pick(r, 0, 1, 2, 3, 8) {
			g.Rules = append(g.Rules, api.Rule{Record: randomName(r), Static: randomStatic(r), E: randomExpr(r)})
		}
		c.Groups = append(c.Groups, g)
	}
	return c
}

// randomFile: lines that are right, or nearly so.
func randomFile(r *rand.Rand) string {
	lines := []string{}
	for range r.Intn(3) {
		lines = append(lines, "", "#"+randomText(r))
	}
	lines = append(lines, strings.SplitAfter(fileText(randomConfig(r)), "\n")...)
	for range r.Intn(4) {
		i := r.Intn(len(lines) + 1)
		lines = slices.Insert(lines, i, pick(r, "", "#", " ", "keep a = \"b\"", "group g every 3", "record a = 1", "record r{a=\"b\"} = "+randomExprText(r), "record r = "+randomText(r), "what"))
	}
	return bent(r, joined(lines))
}

func joined(lines []string) string {
	s := ""
	for _, line := range lines {
		s += strings.TrimSuffix(line, "\n") + "\n"
	}
	return s
}

// bent: at most a few bytes of it gone, doubled, or others.
func bent(r *rand.Rand, s string) string {
	for range pick(r, 0, 0, 1, 2) {
		if s == "" {
			return s
		}
		i := r.Intn(len(s))
		s = s[:i] + pick(r, "", s[i:i+1]+s[i:i+1], " ", "\n", `"`, `\`, "=", "0", "{", "#", "_", "\xff") + s[i+1:]
	}
	return s
}
