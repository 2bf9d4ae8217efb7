package expr

import "spillway/api"

// place: where a token stands. What is begun, or refused, at a token embeds its place.
type place struct{ at int }

// node: an expression that is being read: begun at its place, filled by what stands behind.
type node struct {
	place
	api.Expr
}

// fault: why it can't be read, and where.
type fault struct {
	place
	why api.Errno
}

// reader goes through tokens; it stops at its first fault.
type reader struct {
	tokens []api.Token
	next   int
	end    place // of what lies beyond the tokens
	depth  int
	fault  fault
}

func endOf(l []api.Token) place {
	if len(l) == 0 {
		return place{}
	}
	return place{l[len(l)-1].At}
}

func (p place) begin(kind int) node {
	return node{place: p, Expr: api.Expr{Kind: kind}}
}

func (n node) done() api.Expr {
	n.At = n.at
	return n.Expr
}

// ahead: the token that is n behind the next one.
func (r *reader) ahead(n int) api.Token {
	if i := r.next + n; i < len(r.tokens) {
		return r.tokens[i]
	}
	return api.Token{Kind: api.TEnd, At: r.end.at}
}

func (r *reader) here() place {
	return place{r.ahead(0).At}
}

func (r *reader) take() api.Token {
	t := r.ahead(0)
	r.next++
	return t
}

// refuse: at the next token; false, for the one who asked for it.
func (r *reader) refuse(why api.Errno) bool {
	r.fault = fault{r.here(), why}
	return false
}

func (r *reader) takeKind(kind int) (api.Token, bool) {
	if r.ahead(0).Kind != kind {
		return api.Token{}, r.refuse(api.ErrText)
	}
	return r.take(), true
}

func (r *reader) takeSign(sign string) bool {
	if !isSign(r.ahead(0), sign) {
		return r.refuse(api.ErrText)
	}
	r.take()
	return true
}

func isSign(t api.Token, sign string) bool {
	return t.Kind == api.TSign && t.Text == sign
}

func (r *reader) whole() (api.Expr, bool) {
	e, ok := r.comparison()
	if ok && r.ahead(0).Kind != api.TEnd {
		return api.Expr{}, r.refuse(api.ErrText)
	}
	return e, ok
}

func (r *reader) comparison() (api.Expr, bool) {
	return r.chain(levelComparison)
}

// chain: operands with operators of a level between, from the left. It loops where the text is long, and calls itself only where it is nested.
func (r *reader) chain(level int) (api.Expr, bool) {
	if level > levelProduct {
		return r.negation()
	}
	e, ok := r.chain(level + 1)
	for ok && r.isOperator(level) {
		e, ok = r.joined(e, level)
	}
	return e, ok
}

func (r *reader) isOperator(level int) bool {
	t := r.ahead(0)
	return t.Kind == api.TSign && levelOf(t.Text) == level
}

func (r *reader) joined(left api.Expr, level int) (api.Expr, bool) {
	n := r.here().begin(api.EBin)
	n.Name = r.take().Text
	if !r.modifier(&n) {
		return api.Expr{}, false
	}
	right, ok := r.chain(level + 1)
	n.Kids = []api.Expr{left, right}
	return n.done(), ok
}

// modifier: without `(` behind it, its word is a selector's.
func (r *reader) modifier(n *node) bool {
	t := r.ahead(0)
	if t.Kind != api.TIdent || !isModifier(t.Text) || !isSign(r.ahead(1), "(") {
		return true
	}
	r.take()
	n.On, n.Ign = t.Text == wordOn, t.Text == wordIgnoring
	return r.names(n)
}

func (r *reader) negation() (api.Expr, bool) {
	if !isSign(r.ahead(0), "-") {
		return r.primary()
	}
	n := r.here().begin(api.ENeg)
	r.take()
	kid, ok := r.deeper(r.negation)
	n.Kids = []api.Expr{kid}
	return n.done(), ok
}

// deeper: how deep it is counts ahead of what stands there.
func (r *reader) deeper(inner func() (api.Expr, bool)) (api.Expr, bool) {
	if r.depth == api.MaxNest {
		return api.Expr{}, r.refuse(api.ErrDeep)
	}
	r.depth++
	e, ok := inner()
	r.depth--
	return e, ok
}

func (r *reader) bracketed() (api.Expr, bool) {
	if !r.takeSign("(") {
		return api.Expr{}, false
	}
	e, ok := r.deeper(r.comparison)
	return e, ok && r.takeSign(")")
}

func (r *reader) primary() (api.Expr, bool) {
	t := r.ahead(0)
	switch {
	case t.Kind == api.TNum:
		return r.number()
	case t.Kind == api.TIdent:
		return r.named(t.Text)
	case isSign(t, "("):
		return r.bracketed()
	case isSign(t, "{"):
		return r.selector()
	}
	return api.Expr{}, r.refuse(api.ErrText)
}

// named: what the identifier is that comes next shows in what stands behind it.
func (r *reader) named(name string) (api.Expr, bool) {
	behind := r.ahead(1)
	opens := isSign(behind, "(")
	groups := behind.Kind == api.TIdent && isGrouping(behind.Text)
	switch {
	case isAggregate(name) && (opens || groups):
		return r.aggregate()
	case isModifier(name) && opens:
		return api.Expr{}, r.refuse(api.ErrText)
	case opens:
		return r.call()
	}
	return r.selector()
}

func (r *reader) number() (api.Expr, bool) {
	n := r.here().begin(api.ENum)
	n.V = r.take().V
	return n.done(), true
}

func (r *reader) call() (api.Expr, bool) {
	n := r.here().begin(api.ECall)
	n.Name = r.take().Text
	return r.around(n)
}

func (r *reader) aggregate() (api.Expr, bool) {
	n := r.here().begin(api.EAgg)
	n.Name = r.take().Text
	if t := r.ahead(0); t.Kind == api.TIdent {
		r.take()
		n.By, n.Without = t.Text == wordBy, t.Text == wordWithout
		if !r.names(&n) {
			return api.Expr{}, false
		}
	}
	return r.around(n)
}

// around: n, with what stands in brackets as its kid.
func (r *reader) around(n node) (api.Expr, bool) {
	kid, ok := r.bracketed()
	n.Kids = []api.Expr{kid}
	return n.done(), ok
}

func (r *reader) selector() (api.Expr, bool) {
	n := r.here().begin(api.ESel)
	if t := r.ahead(0); t.Kind == api.TIdent {
		r.take()
		n.Match = append(n.Match, api.Matcher{Name: api.NameLabel, Kind: api.MEq, Text: t.Text})
	}
	ok := r.braces(&n) && r.window(&n)
	return n.done(), ok
}

func (r *reader) braces(n *node) bool {
	if !isSign(r.ahead(0), "{") {
		return true
	}
	return r.list("{", "}", func() bool {
		m, ok := r.matcher()
		n.Match = append(n.Match, m)
		return ok
	}, func() bool { return len(n.Match) <= api.MaxLabels })
}

func (r *reader) matcher() (api.Matcher, bool) {
	name, ok := r.takeKind(api.TIdent)
	if !ok {
		return api.Matcher{}, false
	}
	sign := r.ahead(0)
	if sign.Kind != api.TSign || matcherKind(sign.Text) == 0 {
		return api.Matcher{}, r.refuse(api.ErrText)
	}
	r.take()
	text, ok := r.takeKind(api.TText)
	return api.Matcher{Name: name.Text, Kind: matcherKind(sign.Text), Text: text.Text}, ok
}

func (r *reader) window(n *node) bool {
	if !isSign(r.ahead(0), "[") {
		return true
	}
	r.take()
	t, ok := r.takeKind(api.TDur)
	n.Range = t.N
	return ok && r.takeSign("]")
}

func (r *reader) names(n *node) bool {
	return r.list("(", ")", func() bool {
		t, ok := r.takeKind(api.TIdent)
		n.Names = append(n.Names, t.Text)
		return ok
	}, func() bool { return isFewOnce(n.Names) })
}

// list: perhaps items, with `,` between, from an opening sign to a closing one, at which is told whether they are too many.
func (r *reader) list(opening, closing string, item, few func() bool) bool {
	if !r.takeSign(opening) {
		return false
	}
	for first := true; !isSign(r.ahead(0), closing); first = false {
		if !first && !r.takeSign(",") || !item() {
			return false
		}
	}
	if !few() {
		return r.refuse(api.ErrMany)
	}
	return r.takeSign(closing)
}
