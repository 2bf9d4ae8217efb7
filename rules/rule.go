package rules

import (
	"slices"
	"strings"

	"spillway/api"
	"spillway/expr"
	"spillway/label"
	"spillway/types"
)

const (
	recordWord = "record"
	becomes    = " = "
)

// ruleOf: of a set that names a metric.
func ruleOf(set []api.Pair, e api.Expr) api.Rule {
	return api.Rule{Record: label.Get(set, api.NameLabel), E: e, Static: label.Without(set)}
}

// setOf: the labels of a rule, the metric's among them; or that they are no set.
func setOf(r api.Rule) ([]api.Pair, api.Errno) {
	return label.With(r.Static, api.Pair{Name: api.NameLabel, Value: r.Record})
}

func namesMetric(set []api.Pair) bool {
	return label.Name(label.Get(set, api.NameLabel))
}

// isRule: a metric's name among the other labels is asked for first, as setOf would put Record in its place.
func isRule(r api.Rule) bool {
	if label.Get(r.Static, api.NameLabel) != "" || !label.Name(r.Record) {
		return false
	}
	if _, e := setOf(r); e != api.OK {
		return false
	}
	_, e := types.Rule(r.E)
	return e == api.OK
}

func isSameRule(a, b api.Rule) bool {
	return a.Record == b.Record && slices.Equal(a.Static, b.Static) && expr.Same(a.E, b.E)
}

// ruleLine: of a rule that is one.
func ruleLine(r api.Rule) string {
	set, _ := setOf(r)
	return recordWord + " " + label.Print(set) + becomes + expr.Print(r.E)
}

// recordOf: the set that a record's line names, and the text of its expression, whatever that is.
func recordOf(line string) ([]api.Pair, string, bool) {
	rest := strings.TrimPrefix(line, recordWord+" ")
	end := unquotedBlank(rest)
	if !strings.HasPrefix(rest[end:], becomes) {
		return nil, "", false
	}
	set, e := label.Parse(rest[:end])
	return set, rest[end+len(becomes):], e == api.OK && namesMetric(set)
}

// unquotedBlank: the place of the first blank that isn't within quotes, as a set has them only there; the length, if there is none.
func unquotedBlank(s string) int {
	quoted := false
	for i := 0; i < len(s); i++ {
		switch {
		case quoted && s[i] == '\\':
			i++
		case s[i] == '"':
			quoted = !quoted
		case s[i] == ' ' && !quoted:
			return i
		}
	}
	return len(s)
}

// expressionOf: what can be a rule's; or the place at which it can't.
func expressionOf(text string) (api.Expr, int, api.Errno) {
	e, at, why := expr.Parse(text)
	if why == api.OK {
		at, why = types.Rule(e)
	}
	return e, at, why
}
