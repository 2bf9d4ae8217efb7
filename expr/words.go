package expr

import "spillway/api"

const (
	wordBy       = "by"
	wordWithout  = "without"
	wordOn       = "on"
	wordIgnoring = "ignoring"
)

// How close operators bind: a higher level closer.
const (
	levelNone = iota
	levelComparison
	levelSum
	levelProduct
)

// levelOf: levelNone of what is no operator between two.
func levelOf(sign string) int {
	switch sign {
	case ">", "<", ">=", "<=", "==", "!=":
		return levelComparison
	case "+", "-":
		return levelSum
	case "*", "/":
		return levelProduct
	}
	return levelNone
}

func isAggregate(name string) bool {
	switch name {
	case "sum", "min", "max", "count", "avg":
		return true
	}
	return false
}

func isGrouping(name string) bool {
	return name == wordBy || name == wordWithout
}

func isModifier(name string) bool {
	return name == wordOn || name == wordIgnoring
}

// matcherSign: "" of what is no kind.
func matcherSign(kind int) string {
	switch kind {
	case api.MEq:
		return "="
	case api.MNe:
		return "!="
	case api.MPrefix:
		return "^="
	case api.MGlob:
		return "*="
	}
	return ""
}

// matcherKind: 0 of what is no matcher's sign.
func matcherKind(sign string) int {
	for _, kind := range [...]int{api.MEq, api.MNe, api.MPrefix, api.MGlob} {
		if matcherSign(kind) == sign {
			return kind
		}
	}
	return 0
}
