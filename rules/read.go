package rules

import (
	"slices"
	"strings"

	"spillway/api"
	"spillway/lex"
	"spillway/relabel"
)

// fault: why a line can't be taken, and where within it; OK, if it was.
type fault struct {
	at  int
	why api.Errno
}

// reading: what the lines of a file gave so far.
type reading struct {
	relabels []api.Relabel
	groups   []group
}

func (r *reading) config() api.Config {
	c := api.Config{Relabels: r.relabels}
	for _, g := range r.groups {
		c.Groups = append(c.Groups, g.done())
	}
	return c
}

// take: what kind of line it is shows in its first word.
func (r *reading) take(line string) fault {
	if line == "" || line[0] == '#' {
		return fault{}
	}
	word, _, _ := strings.Cut(line, " ")
	switch word {
	case groupWord:
		return r.takeGroup(line)
	case recordWord:
		return r.takeRecord(line)
	}
	return r.takeRelabel(line)
}

func (r *reading) takeRelabel(line string) fault {
	x, ok := relabelOf(line)
	switch {
	case !ok || len(r.groups) > 0:
		return fault{why: api.ErrForm}
	case len(r.relabels) == api.MaxRelabels:
		return fault{why: api.ErrMany}
	}
	r.relabels = append(r.relabels, x)
	return fault{}
}

func (r *reading) takeGroup(line string) fault {
	h, ok := headOf(line)
	switch {
	case !ok:
		return fault{why: api.ErrForm}
	case len(r.groups) == api.MaxGroups:
		return fault{why: api.ErrMany}
	case slices.ContainsFunc(r.groups, func(g group) bool { return g.isNamed(h.name) }):
		return fault{why: api.ErrTwice}
	}
	r.groups = append(r.groups, group{head: h})
	return fault{}
}

func (r *reading) takeRecord(line string) fault {
	set, text, ok := recordOf(line)
	if !ok || len(r.groups) == 0 {
		return fault{why: api.ErrForm}
	}
	g := &r.groups[len(r.groups)-1]
	if len(g.rules) == api.MaxRules {
		return fault{why: api.ErrMany}
	}
	e, at, why := expressionOf(text)
	if why != api.OK {
		return fault{len(line) - len(text) + at, why}
	}
	g.rules = append(g.rules, ruleOf(set, e))
	return fault{}
}

// relabelOf: by its signs; that nothing else stands between them, and none too many, shows in what relabel prints of them.
func relabelOf(line string) (api.Relabel, bool) {
	tokens, _, e := lex.Scan(line)
	if e != api.OK {
		return api.Relabel{}, false
	}
	r := relabelOfSigns(texts(tokens))
	return r, relabel.Print(r) == line
}

// mostSigns: of the longest relabel rule.
const mostSigns = 6

// texts: of the first tokens, "" behind the last one.
func texts(l []api.Token) [mostSigns]string {
	out := [mostSigns]string{}
	for i := 0; i < len(l) && i < mostSigns; i++ {
		out[i] = l[i].Text
	}
	return out
}

// relabelOfSigns: no rule of what begins with another word.
func relabelOfSigns(s [mostSigns]string) api.Relabel {
	from := api.Matcher{Name: s[1], Kind: matcherKind(s[2]), Text: s[3]}
	switch s[0] {
	case "keep":
		return api.Relabel{Action: api.AKeep, From: from}
	case "drop":
		return api.Relabel{Action: api.ADrop, From: from}
	case "replace":
		return api.Relabel{Action: api.AReplace, From: from, Target: s[4], Text: s[5]}
	case "labeldrop":
		return api.Relabel{Action: api.ALabelDrop, From: api.Matcher{Text: s[1]}}
	}
	return api.Relabel{}
}

// matcherKind: 0 of what is no matcher's sign.
func matcherKind(sign string) int {
	switch sign {
	case "=":
		return api.MEq
	case "!=":
		return api.MNe
	case "^=":
		return api.MPrefix
	case "*=":
		return api.MGlob
	}
	return 0
}
