package expr

import (
	"slices"

	"spillway/api"
	"spillway/fix"
	"spillway/label"
	"spillway/pattern"
)

const mostNodes = 700

// counted: how many expressions there are in e; beyond most no more are counted, however many there are.
func counted(e api.Expr, most int) int {
	n := 1
	for i := 0; i < len(e.Kids) && n <= most; i++ {
		n += counted(e.Kids[i], most-n)
	}
	return n
}

func isSound(e api.Expr) bool {
	return isAlike(e, own(e)) && isOfKind(e) && allHold(e.Kids, isSound)
}

// own: of e's fields only those that its kind has.
func own(e api.Expr) api.Expr {
	switch e.Kind {
	case api.ENum:
		return api.Expr{Kind: e.Kind, V: e.V}
	case api.ESel:
		return api.Expr{Kind: e.Kind, Match: e.Match, Range: e.Range}
	case api.ECall:
		return api.Expr{Kind: e.Kind, Name: e.Name}
	case api.EAgg:
		return api.Expr{Kind: e.Kind, Name: e.Name, By: e.By, Without: e.Without, Names: e.Names}
	case api.EBin:
		return api.Expr{Kind: e.Kind, Name: e.Name, On: e.On, Ign: e.Ign, Names: e.Names}
	}
	return api.Expr{Kind: e.Kind}
}

// isOfKind: whether the fields that its kind has are right, and how many kids there are.
func isOfKind(e api.Expr) bool {
	switch e.Kind {
	case api.ENum:
		return len(e.Kids) == 0 && fix.Is(e.V) && !e.V.Ovf && e.V.N >= 0
	case api.ESel:
		return len(e.Kids) == 0 && len(e.Match) <= api.MaxLabels && allHold(e.Match, pattern.Is) && isRange(e.Range)
	case api.ECall:
		return len(e.Kids) == 1 && isFunction(e.Name)
	case api.EAgg:
		return len(e.Kids) == 1 && isAggregate(e.Name) && isGrouped(e.By, e.Without, e.Names)
	case api.EBin:
		return len(e.Kids) == 2 && levelOf(e.Name) != levelNone && isGrouped(e.On, e.Ign, e.Names)
	case api.ENeg:
		return len(e.Kids) == 1
	}
	return false
}

func isRange(n int) bool {
	return n >= 0 && n <= api.MaxRange
}

func isFunction(name string) bool {
	return label.Name(name) && !isAggregate(name) && !isModifier(name)
}

// isGrouped: by one of two words, with names; or by none, without any.
func isGrouped(one, other bool, names []string) bool {
	if !one && !other {
		return len(names) == 0
	}
	return one != other && isFewOnce(names) && allHold(names, label.Name)
}

// isFewOnce: how many they are counts first, so that only a few are held against each other.
func isFewOnce(names []string) bool {
	if len(names) > api.MaxLabels {
		return false
	}
	for i, name := range names {
		if slices.Contains(names[:i], name) {
			return false
		}
	}
	return true
}

func allHold[T any](l []T, holds func(T) bool) bool {
	for _, x := range l {
		if !holds(x) {
			return false
		}
	}
	return true
}
