package expr

import (
	"strings"

	"spillway/api"
	"spillway/fix"
	"spillway/lex"
)

// printed: the text of an expression that is one.
func printed(e api.Expr) string {
	switch e.Kind {
	case api.ENum:
		return fix.Print(e.V)
	case api.ESel:
		return printedSelector(e)
	case api.ECall:
		return e.Name + "(" + printed(e.Kids[0]) + ")"
	case api.EAgg:
		return e.Name + " " + printedGrouping(e) + "(" + printed(e.Kids[0]) + ")"
	case api.EBin:
		return "(" + printed(e.Kids[0]) + " " + e.Name + " " + printedGrouping(e) + printed(e.Kids[1]) + ")"
	}
	return "-" + printed(e.Kids[0])
}

func printedSelector(e api.Expr) string {
	text, others := parted(e.Match)
	if text == "" || len(others) > 0 {
		text += "{" + printedMatchers(others) + "}"
	}
	if e.Range > 0 {
		text += "[" + lex.Print(api.Token{Kind: api.TDur, N: e.Range}) + "]"
	}
	return text
}

func printedMatchers(l []api.Matcher) string {
	texts := []string{}
	for _, m := range l {
		texts = append(texts, m.Name+matcherSign(m.Kind)+lex.Print(api.Token{Kind: api.TText, Text: m.Text}))
	}
	return strings.Join(texts, ", ")
}

// printedGrouping: the word and the names in brackets, a blank behind; "" without such a word.
func printedGrouping(e api.Expr) string {
	word := groupingWord(e)
	if word == "" {
		return ""
	}
	return word + " (" + strings.Join(e.Names, ", ") + ") "
}

func groupingWord(e api.Expr) string {
	switch {
	case e.By:
		return wordBy
	case e.Without:
		return wordWithout
	case e.On:
		return wordOn
	case e.Ign:
		return wordIgnoring
	}
	return ""
}
