package expr

import (
	"math/rand"
	"reflect"
	"slices"
	"strconv"
	"strings"

	"spillway/api"
	"spillway/fix"
	"spillway/lex"
)

// The model: a machine that takes tokens one by one, with a stack of what is open, and reduces by levels. It shares nothing with the program but lex.

const (
	stOperand  = iota
	stBehindOp // an operand, or a mod
	stOperator
	stGroupWord
	stNamesOpen
	stNamesFirst // a name or `)`
	stNamesMore  // `,` or `)`
	stNamesNext  // a name
	stOpen
	stMatchFirst // a matcher or `}`
	stMatchSign
	stMatchText
	stMatchMore
	stMatchNext
	stSelName // behind a selector's name
	stSelEnd  // behind its braces
	stDur
	stDurEnd
	stDone
)

type open struct {
	sign  string // "(", "-", or "" of an operator between two
	level int
	e     api.Expr
}

type machine struct {
	state  int
	opened []open
	vals   []api.Expr
	cur    api.Expr
}

func sameToken(t api.Token, kind int, texts ...string) bool {
	return t.Kind == kind && slices.Contains(texts, t.Text)
}

func (m *machine) top() *open {
	if len(m.opened) == 0 {
		return &open{sign: "none"}
	}
	return &m.opened[len(m.opened)-1]
}

func (m *machine) pop() (open, api.Expr) {
	o, v := *m.top(), m.vals[len(m.vals)-1]
	m.opened, m.vals = m.opened[:len(m.opened)-1], m.vals[:len(m.vals)-1]
	return o, v
}

func (m *machine) complete(e api.Expr) {
	m.vals, m.state = append(m.vals, e), stOperator
	for m.top().sign == "-" {
		o, v := m.pop()
		o.e.Kids = []api.Expr{v}
		m.vals = append(m.vals, o.e)
	}
}

func (m *machine) reduce(level int) {
	for m.top().sign == "" && m.top().level >= level {
		o, right := m.pop()
		o.e.Kids = []api.Expr{m.vals[len(m.vals)-1], right}
		m.vals[len(m.vals)-1] = o.e
	}
}

func (m *machine) deep() int {
	n := 0
	for _, o := range m.opened {
		if o.sign != "" {
			n++
		}
	}
	return n
}

func (m *machine) operand(t, behind api.Token) api.Errno {
	opens := sameToken(behind, api.TSign, "(")
	groups := sameToken(behind, api.TIdent, "by", "without")
	switch {
	case m.deep() > 15:
		return api.ErrDeep
	case t.Kind == api.TNum:
		m.complete(api.Expr{Kind: api.ENum, At: t.At, V: t.V})
	case sameToken(t, api.TSign, "-"):
		m.opened, m.state = append(m.opened, open{sign: "-", e: api.Expr{Kind: api.ENeg, At: t.At}}), stOperand
	case sameToken(t, api.TSign, "("):
		m.opened, m.state = append(m.opened, open{sign: "("}), stOperand
	case sameToken(t, api.TSign, "{"):
		m.cur, m.state = api.Expr{Kind: api.ESel, At: t.At}, stMatchFirst
	case t.Kind != api.TIdent:
		return api.ErrText
	case opens && sameToken(t, api.TIdent, "on", "ignoring"):
		if m.state != stBehindOp {
			return api.ErrText
		}
		m.top().e.On, m.top().e.Ign, m.state = t.Text == "on", t.Text == "ignoring", stNamesOpen
		m.cur = api.Expr{}
	case sameToken(t, api.TIdent, "sum", "min", "max", "count", "avg") && (opens || groups):
		m.cur, m.state = api.Expr{Kind: api.EAgg, At: t.At, Name: t.Text}, stOpen
		if groups {
			m.state = stGroupWord
		}
	case opens:
		m.cur, m.state = api.Expr{Kind: api.ECall, At: t.At, Name: t.Text}, stOpen
	default:
		m.cur, m.state = api.Expr{Kind: api.ESel, At: t.At, Match: []api.Matcher{{Name: "__name__", Kind: api.MEq, Text: t.Text}}}, stSelName
	}
	return api.OK
}

func (m *machine) operator(t api.Token) api.Errno {
	levels := map[string]int{">": 1, "<": 1, ">=": 1, "<=": 1, "==": 1, "!=": 1, "+": 2, "-": 2, "*": 3, "/": 3}
	switch {
	case t.Kind == api.TEnd && m.deep() == 0:
		m.reduce(0)
		m.state = stDone
	case sameToken(t, api.TSign, ")") && m.deep() > 0:
		m.reduce(0)
		o, v := m.pop()
		if o.e.Kind != 0 {
			o.e.Kids = []api.Expr{v}
			v = o.e
		}
		m.complete(v)
	case t.Kind == api.TSign && levels[t.Text] > 0:
		m.reduce(levels[t.Text])
		m.opened = append(m.opened, open{level: levels[t.Text], e: api.Expr{Kind: api.EBin, At: t.At, Name: t.Text}})
		m.state = stBehindOp
	default:
		return api.ErrText
	}
	return api.OK
}

// namesOf: whose names are read: an aggregate's, or those of the operator that was opened last.
func (m *machine) namesOf() *api.Expr {
	if m.cur.Kind == api.EAgg {
		return &m.cur
	}
	return &m.top().e
}

func (m *machine) names(t api.Token) api.Errno {
	e := m.namesOf()
	switch {
	case t.Kind == api.TIdent && m.state != stNamesMore:
		e.Names, m.state = append(e.Names, t.Text), stNamesMore
	case sameToken(t, api.TSign, ",") && m.state == stNamesMore:
		m.state = stNamesNext
	case sameToken(t, api.TSign, ")") && m.state != stNamesNext:
		sorted := slices.Sorted(slices.Values(e.Names))
		if len(sorted) > 8 || len(slices.Compact(sorted)) < len(e.Names) {
			return api.ErrMany
		}
		m.state = stOperand
		if e.Kind == api.EAgg {
			m.state = stOpen
		}
	default:
		return api.ErrText
	}
	return api.OK
}

func (m *machine) matchers(t api.Token) api.Errno {
	last := len(m.cur.Match) - 1
	switch {
	case t.Kind == api.TIdent && (m.state == stMatchFirst || m.state == stMatchNext):
		m.cur.Match, m.state = append(m.cur.Match, api.Matcher{Name: t.Text}), stMatchSign
	case m.state == stMatchSign && sameToken(t, api.TSign, "=", "!=", "^=", "*="):
		m.cur.Match[last].Kind = map[string]int{"=": 1, "!=": 2, "^=": 3, "*=": 4}[t.Text]
		m.state = stMatchText
	case m.state == stMatchText && t.Kind == api.TText:
		m.cur.Match[last].Text, m.state = t.Text, stMatchMore
	case m.state == stMatchMore && sameToken(t, api.TSign, ","):
		m.state = stMatchNext
	case (m.state == stMatchMore || m.state == stMatchFirst) && sameToken(t, api.TSign, "}"):
		if len(m.cur.Match) > 8 {
			return api.ErrMany
		}
		m.state = stSelEnd
	default:
		return api.ErrText
	}
	return api.OK
}

func (m *machine) step(t, behind api.Token) api.Errno {
	switch m.state {
	case stOperand, stBehindOp:
		return m.operand(t, behind)
	case stOperator:
		return m.operator(t)
	case stNamesFirst, stNamesMore, stNamesNext:
		return m.names(t)
	case stMatchFirst, stMatchSign, stMatchText, stMatchMore, stMatchNext:
		return m.matchers(t)
	case stSelName, stSelEnd:
		if sameToken(t, api.TSign, "[") {
			m.state = stDur
			return api.OK
		}
		if m.state == stSelName && sameToken(t, api.TSign, "{") {
			m.state = stMatchFirst
			return api.OK
		}
		m.complete(m.cur)
		return m.operator(t)
	}
	switch {
	case m.state == stGroupWord && sameToken(t, api.TIdent, "by", "without"):
		m.cur.By, m.cur.Without, m.state = t.Text == "by", t.Text == "without", stNamesOpen
	case m.state == stNamesOpen && sameToken(t, api.TSign, "("):
		m.state = stNamesFirst
	case m.state == stOpen && sameToken(t, api.TSign, "("):
		m.opened, m.state = append(m.opened, open{sign: "(", e: m.cur}), stOperand
	case m.state == stDur && t.Kind == api.TDur:
		m.cur.Range, m.state = t.N, stDurEnd
	case m.state == stDurEnd && sameToken(t, api.TSign, "]"):
		m.complete(m.cur)
	default:
		return api.ErrText
	}
	return api.OK
}

func modelRead(l []api.Token) (api.Expr, int, api.Errno) {
	end := api.Token{}
	if len(l) > 0 {
		end.At = l[len(l)-1].At
	}
	all := append(slices.Clone(l), end, end)
	m := machine{}
	for i := 0; ; i++ {
		if e := m.step(all[i], all[i+1]); e != api.OK {
			return api.Expr{}, all[i].At, e
		}
		if m.state == stDone {
			return m.vals[0], 0, api.OK
		}
	}
}

func modelParse(s string) (api.Expr, int, api.Errno) {
	l, at, e := lex.Scan(s)
	if e != api.OK {
		return api.Expr{}, at, e
	}
	return modelRead(l)
}

// plain: nil for each empty list; with the places, or without.
func plain(e api.Expr, places bool) api.Expr {
	if !places {
		e.At = 0
	}
	e.Match, e.Names = slices.Clone(e.Match), slices.Clone(e.Names)
	if len(e.Match) == 0 {
		e.Match = nil
	}
	if len(e.Names) == 0 {
		e.Names = nil
	}
	kids := e.Kids
	e.Kids = nil
	for _, kid := range kids {
		e.Kids = append(e.Kids, plain(kid, places))
	}
	return e
}

func isEqual(a, b api.Expr) bool {
	return reflect.DeepEqual(plain(a, true), plain(b, true))
}

func isEqualUnplaced(a, b api.Expr) bool {
	return reflect.DeepEqual(plain(a, false), plain(b, false))
}

func count(e api.Expr) int {
	n := 1
	for _, kid := range e.Kids {
		n += count(kid)
	}
	return n
}

// blind: the text of whatever it is, without asking; all in brackets.
func blind(e api.Expr) string {
	kids := []string{}
	for _, kid := range e.Kids {
		kids = append(kids, blind(kid))
	}
	group := ""
	for _, w := range []struct {
		has  bool
		word string
	}{{e.By, "by"}, {e.Without, "without"}, {e.On, "on"}, {e.Ign, "ignoring"}} {
		if w.has {
			group += " " + w.word + "(" + strings.Join(e.Names, ",") + ")"
		}
	}
	switch e.Kind {
	case api.ENum:
		return fix.Print(e.V)
	case api.ESel:
		matchers := []string{}
		for _, m := range e.Match {
			sign := map[int]string{1: "=", 2: "!=", 3: "^=", 4: "*="}[m.Kind]
			matchers = append(matchers, m.Name+sign+`"`+strings.NewReplacer(`"`, `\"`, `\`, `\\`).Replace(m.Text)+`"`)
		}
		if e.Range != 0 {
			group = "[" + strconv.Itoa(e.Range) + "t]"
		}
		return "{" + strings.Join(matchers, ",") + "}" + group
	case api.ECall, api.EAgg:
		return e.Name + group + "(" + strings.Join(kids, " ") + ")"
	case api.EBin:
		if len(kids) == 2 {
			return "(" + kids[0] + e.Name + group + " " + kids[1] + ")"
		}
	case api.ENeg:
		return "-" + strings.Join(kids, " ")
	}
	return "$"
}

// couldBeRead: whether its blind text is read as it. (Of what isn't nested too deep.)
func couldBeRead(e api.Expr) bool {
	got, _, n := modelParse(blind(e))
	return n == api.OK && isEqualUnplaced(got, e)
}

var (
	words     = []string{"a", "b", "x1", "_", "up", "sum", "min", "max", "count", "avg", "by", "without", "on", "ignoring", "rate", "ovf", "t", "__name__", strings.Repeat("n", api.MaxName)}
	functions = []string{"a", "f", "rate", "by", "without", "ovf", "t", "__name__", strings.Repeat("n", api.MaxName)}
	aggregs   = []string{"sum", "min", "max", "count", "avg"}
	operators = []string{">", "<", ">=", "<=", "==", "!=", "+", "-", "*", "/"}
	texts     = []string{"", "a", "up", "sum", "on", `"`, `\`, `\"`, " ", "a b", "*?", "\xff\x00\t", "7a", strings.Repeat("v", api.MaxValue), strings.Repeat(`"`, api.MaxValue)}
)

func pick[T any](r *rand.Rand, l []T) T { return l[r.Intn(len(l))] }

// someNames: each once.
func someNames(r *rand.Rand) []string {
	l := slices.Clone(words)
	r.Shuffle(len(l), func(i, j int) { l[i], l[j] = l[j], l[i] })
	return l[:pick(r, []int{0, 1, 1, 2, 3, api.MaxLabels})]
}

func randomSelector(r *rand.Rand) api.Expr {
	e := api.Expr{Kind: api.ESel, Range: pick(r, []int{0, 0, 0, 1, 5, api.MaxRange})}
	if r.Intn(4) > 0 {
		e.Match = append(e.Match, api.Matcher{Name: api.NameLabel, Kind: api.MEq, Text: pick(r, words)})
	}
	for range pick(r, []int{0, 0, 0, 1, 2, api.MaxLabels - len(e.Match)}) {
		e.Match = append(e.Match, api.Matcher{Name: pick(r, words), Kind: 1 + r.Intn(4), Text: pick(r, texts)})
	}
	return e
}

// randomTree: at most so deep.
func randomTree(r *rand.Rand, deep int) api.Expr {
	kind := 1 + r.Intn(6)
	if deep == 0 {
		kind = 1 + r.Intn(2)
	}
	e := api.Expr{Kind: kind}
	switch kind {
	case api.ENum:
		e.V.N = pick(r, []int64{0, 1, 1000000, 1500000, 1<<63 - 1, r.Int63n(1000) * 1000000})
		return e
	case api.ESel:
		return randomSelector(r)
	case api.ECall:
		e.Name = pick(r, functions)
	case api.EAgg:
		e.Name = pick(r, aggregs)
		if r.Intn(2) == 0 {
			e.By = r.Intn(2) == 0
			e.Without = !e.By
			e.Names = someNames(r)
		}
	case api.EBin:
		e.Name = pick(r, operators)
		if r.Intn(2) == 0 {
			e.On = r.Intn(2) == 0
			e.Ign = !e.On
			e.Names = someNames(r)
		}
		e.Kids = append(e.Kids, randomTree(r, deep-1))
	}
	e.Kids = append(e.Kids, randomTree(r, deep-1))
	return e
}

// level: how close what it is binds.
func level(e api.Expr) int {
	switch e.Kind {
	case api.EBin:
		return map[string]int{"+": 2, "-": 2, "*": 3, "/": 3}[e.Name]
	case api.ENeg:
		return 4
	}
	return 5
}

// loose: a text of a tree with brackets only where it needs them, or by chance, and with blanks by chance.
func loose(r *rand.Rand, e api.Expr, least int) string {
	gap := func() string { return pick(r, []string{"", " ", "\t", "  "}) }
	list := func(l []string) string { return "(" + gap() + strings.Join(l, gap()+","+gap()) + gap() + ")" }
	if level(e) < least || r.Intn(8) == 0 {
		return "(" + gap() + loose(r, e, 0) + gap() + ")"
	}
	kid := func(i, least int) string { return gap() + loose(r, e.Kids[i], least) + gap() }
	switch e.Kind {
	case api.ECall:
		return e.Name + gap() + "(" + kid(0, 0) + ")"
	case api.EAgg:
		if e.By || e.Without {
			return e.Name + " " + map[bool]string{true: "by", false: "without"}[e.By] + gap() + list(e.Names) + gap() + "(" + kid(0, 0) + ")"
		}
		return e.Name + gap() + "(" + kid(0, 0) + ")"
	case api.EBin:
		mod := ""
		if e.On || e.Ign {
			mod = gap() + map[bool]string{true: "on", false: "ignoring"}[e.On] + gap() + list(e.Names)
		}
		return kid(0, level(e)) + e.Name + mod + kid(1, level(e)+1)
	case api.ENeg:
		return "-" + gap() + loose(r, e.Kids[0], 4)
	case api.ESel:
		return looseSelector(r, e)
	}
	return blind(e)
}

// looseSelector: with the name ahead of the braces, or among them.
func looseSelector(r *rand.Rand, e api.Expr) string {
	if len(e.Match) == 0 || e.Match[0].Name != api.NameLabel || e.Match[0].Kind != api.MEq || !slices.Contains(words, e.Match[0].Text) || r.Intn(2) == 0 {
		return blind(e)
	}
	rest := e
	rest.Match = e.Match[1:]
	return e.Match[0].Text + pick(r, []string{"", " "}) + blind(rest)
}
