package rules

import (
	"slices"
	"strconv"
	"strings"

	"spillway/api"
	"spillway/label"
)

const (
	groupWord = "group"
	everyWord = "every"
)

// head: what a group's own line tells of it.
type head struct {
	name  string
	every int
}

// group: its head, and the rules of the lines behind it.
type group struct {
	head
	rules []api.Rule
}

func groupOf(g api.Group) group {
	return group{head{g.Name, g.Every}, g.Rules}
}

func (g group) done() api.Group {
	return api.Group{Name: g.name, Every: g.every, Rules: g.rules}
}

// headOf: told back it must be the same line, as signs and noughts ahead of a number would be read too.
func headOf(line string) (head, bool) {
	name, number, _ := strings.Cut(strings.TrimPrefix(line, groupWord+" "), " "+everyWord+" ")
	every, err := strconv.Atoi(number)
	h := head{name, every}
	if err != nil || !h.isHead() || h.line() != line {
		return head{}, false
	}
	return h, true
}

func (h head) isHead() bool {
	return label.Name(h.name) && h.every >= 1 && h.every <= api.MaxEvery
}

func (h head) isNamed(name string) bool {
	return h.name == name
}

func (h head) line() string {
	return groupWord + " " + h.name + " " + everyWord + " " + strconv.Itoa(h.every)
}

// lines: the head's, and one of each rule.
func (g group) lines() []string {
	out := []string{g.line()}
	for _, r := range g.rules {
		out = append(out, ruleLine(r))
	}
	return out
}

func isGroup(x api.Group) bool {
	g := groupOf(x)
	return g.isHead() && len(g.rules) <= api.MaxRules && allHold(g.rules, isRule)
}

// areNamedOnce: asked of a few groups alone, as each is held against each other.
func areNamedOnce(l []api.Group) bool {
	for i, g := range l {
		if slices.ContainsFunc(l[:i], func(other api.Group) bool { return groupOf(other).isNamed(g.Name) }) {
			return false
		}
	}
	return true
}

func isSameGroup(a, b api.Group) bool {
	x, y := groupOf(a), groupOf(b)
	return x.head == y.head && slices.EqualFunc(x.rules, y.rules, isSameRule)
}
