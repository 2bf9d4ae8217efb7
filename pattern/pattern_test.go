package pattern

import (
	"math"
	"math/rand"
	"regexp"
	"slices"
	"strings"
	"testing"
	"time"

	"spillway/api"
)

var otherKinds = []int{0, -1, 5, 6, -4, 257, math.MinInt, math.MaxInt}

// runes: each byte as a letter of its own, so that a regular expression goes by bytes.
func runes(s string) string {
	r := []rune{}
	for i := range len(s) {
		r = append(r, rune(s[i]))
	}
	return string(r)
}

// wantedGlob: the same by a regular expression.
func wantedGlob(pattern, s string) bool {
	form := regexp.QuoteMeta(runes(pattern))
	form = strings.NewReplacer(`\*`, `.*`, `\?`, `.`, `\\`, `\\`).Replace(form)
	return regexp.MustCompile(`(?s)\A(?:` + form + `)\z`).MatchString(runes(s))
}

// texts: all texts of these bytes, up to that length.
func texts(of string, most int) []string {
	all := []string{""}
	last := all
	for range most {
		next := []string{}
		for _, s := range last {
			for i := range len(of) {
				next = append(next, s+of[i:i+1])
			}
		}
		all = append(all, next...)
		last = next
	}
	return all
}

func anyText(r *rand.Rand, of string, most int) string {
	b := []byte{}
	for range r.Intn(most + 1) {
		b = append(b, of[r.Intn(len(of))])
	}
	return string(b)
}

// soon: what f answers; a search that goes through all ways of many stars wouldn't end.
func soon(t *testing.T, what string, f func() bool) bool {
	t.Helper()
	answer := make(chan bool, 1)
	go func() { answer <- f() }()
	select {
	case a := <-answer:
		return a
	case <-time.After(30 * time.Second):
		t.Fatalf("%s: it doesn't end", what)
		return false
	}
}

func TestGlobRows(t *testing.T) {
	for _, c := range []struct {
		pattern, s string
		want       bool
	}{
		{"a*c", "abc", true},
		{"a*c", "ac", true},
		{"a*c", "abbbc", true},
		{"a*c", "abcd", false},
		{"a*c", "xabc", false},
		{"a*c", "a", false},
		{"a*a", "a", false},
		{"a*c", "abcbc", true},
		{"a*c", "abcb", false},
		{"a*bc", "abbc", true},
		{"a*bcd*e", "abcbcde", true},
		{"", "", true},
		{"", "a", false},
		{"a", "", false},
		{"*", "", true},
		{"*", "a", true},
		{"*", "a\nb\x00", true},
		{"**", "", true},
		{"***", "ab", true},
		{"a**b", "ab", true},
		{"a**b", "axxb", true},
		{"*a", "a", true},
		{"*a", "ba", true},
		{"*a", "ab", false},
		{"*a", "aaa", true},
		{"*ab", "aab", true},
		{"a*", "a", true},
		{"a*", "ab", true},
		{"a*", "ba", false},
		{"a***", "a", true},
		{"a**b*", "a", false},
		{"*b*", "abc", true},
		{"*b*", "ac", false},
		{"*a*b*", "ba", false},
		{"?", "", false},
		{"?", "a", true},
		{"?", "\n", true},
		{"?", "ab", false},
		{"a?", "a", false},
		{"?a", "a", false},
		{"a?c", "ac", false},
		{"a?c", "abc", true},
		{"??", "a", false},
		{"*?", "", false},
		{"?*", "", false},
		{"*?", "a", true},
		{"?*", "a", true},
		{"*?*", "a", true},
		{"?*?", "a", false},
		{"?*?", "ab", true},
		{"*?b", "b", false},
		{"*?b", "abb", true},
		{"a", "*", false},
		{"a", "?", false},
		{"*", "*", true},
		{"?", "*", true},
		{"**?", "*", true},
		{`\*`, `\`, true},
		{`\*`, "*", false},
		{`\?`, "?", false},
		{`[ab]`, "a", false},
		{"a.c", "abc", false},
		{"A", "a", false},
		{"a", "A", false},
	} {
		if Glob(c.pattern, c.s) != c.want {
			t.Errorf("P4.1: %q, %q: want %v", c.pattern, c.s, c.want)
		}
	}
}

func TestGlobGoesByBytes(t *testing.T) {
	for _, c := range []struct {
		pattern, s string
		want       bool
	}{
		{"?", "é", false},
		{"??", "é", true},
		{"\xc3?", "é", true},
		{"?\xa9", "é", true},
		{"\xc3*", "é", true},
		{"*\xa9", "é", true},
		{"\xc3", "é", false},
		{"\xa9", "é", false},
		{"*\xa9*", "xéy", true},
		{"é", "é", true},
		{"é", "e\u0301", false},
		{"?\x00*", "\xff\x00", true},
		{"\xff", "\xfe", false},
		{"\xff", "\ufffd", false},
		{"\ufffd", "\xff", false},
		{"\xff*", "\xff", true},
		{"a\x00b", "a\x00b", true},
		{"a\x00b", "a\x00c", false},
		{"a", "a\x00", false},
		{"a\x00", "a", false},
		{"a*\xff", "a\xff", true},
		{"*\xff", "\xff\xff", true},
	} {
		if Glob(c.pattern, c.s) != c.want {
			t.Errorf("P4.1: %q, %q: want %v", c.pattern, c.s, c.want)
		}
	}
	for i := range 256 {
		one := string([]byte{byte(i)})
		if !Glob("?", one) || !Glob("*", one) || !Glob("a*"+one, "ab"+one) {
			t.Errorf("P4.1: byte %d", i)
		}
		if Glob(one, "b") != (one == "b" || one == "*" || one == "?") {
			t.Errorf("P4.1: byte %d as a pattern", i)
		}
	}
}

func TestGlobOfAllShortTexts(t *testing.T) {
	of := texts("ab*", 4)
	for _, pattern := range texts("ab*?", 4) {
		form := regexp.MustCompile(`\A` + strings.NewReplacer("*", ".*", "?", ".").Replace(pattern) + `\z`)
		for _, s := range of {
			if Glob(pattern, s) != form.MatchString(s) {
				t.Fatalf("P4.1: %q, %q", pattern, s)
			}
		}
	}
}

func TestGlobOfAnyTexts(t *testing.T) {
	r := rand.New(rand.NewSource(41))
	for range 20000 {
		pattern, s := anyText(r, "aab**?\n\xc3\xa9\\.[", 9), anyText(r, "aaab\n\xc3\xa9*?\\.[", 14)
		if Glob(pattern, s) != wantedGlob(pattern, s) {
			t.Fatalf("P4.1: %q, %q", pattern, s)
		}
	}
	for range 5000 {
		pattern, s := anyText(r, "aab**?", 24), anyText(r, "aaab", 60)
		if Glob(pattern, s) != wantedGlob(pattern, s) {
			t.Fatalf("P4.1: %q, %q", pattern, s)
		}
	}
}

func TestGlobOfManyStars(t *testing.T) {
	as := strings.Repeat("a", 20000)
	for i, c := range []struct {
		pattern, s string
		want       bool
	}{
		{strings.Repeat("*a", 200), as, true},
		{strings.Repeat("a*", 200), as, true},
		{strings.Repeat("*a", 200) + "b", as, false},
		{strings.Repeat("a*", 200) + "b", as, false},
		{strings.Repeat("a*", 200) + "b", as + "b", true},
		{strings.Repeat("*a*", 200) + "b", as + "bc", false},
		{strings.Repeat("*?", 200), as, true},
		{strings.Repeat("*?", 20000), as, true},
		{strings.Repeat("*?", 20001), as, false},
		{strings.Repeat("*a", 20001), as, false},
		{strings.Repeat("*", 20000), as, true},
		{strings.Repeat("*", 20000), "", true},
		{strings.Repeat("*", 20000) + "b", as, false},
		{strings.Repeat("?", 20000), as, true},
		{strings.Repeat("?", 20001), as, false},
		{strings.Repeat("?", 19999), as, false},
	} {
		if soon(t, "P4.1: many stars", func() bool { return Glob(c.pattern, c.s) }) != c.want {
			t.Errorf("P4.1: row %d: want %v", i, c.want)
		}
	}
}

func TestOne(t *testing.T) {
	for _, c := range []struct {
		kind        int
		text, value string
		want        bool
	}{
		{api.MEq, "abc", "abc", true},
		{api.MEq, "abc", "ab", false},
		{api.MEq, "ab", "abc", false},
		{api.MEq, "", "", true},
		{api.MEq, "", "a", false},
		{api.MEq, "a", "", false},
		{api.MEq, "a*", "abc", false},
		{api.MEq, "a*", "a*", true},
		{api.MEq, "A", "a", false},
		{api.MNe, "abc", "abc", false},
		{api.MNe, "abc", "ab", true},
		{api.MNe, "ab", "abc", true},
		{api.MNe, "", "", false},
		{api.MNe, "", "a", true},
		{api.MNe, "a", "", true},
		{api.MNe, "a*", "abc", true},
		{api.MPrefix, "ab", "abc", true},
		{api.MPrefix, "abc", "abc", true},
		{api.MPrefix, "abcd", "abc", false},
		{api.MPrefix, "bc", "abc", false},
		{api.MPrefix, "", "", true},
		{api.MPrefix, "", "abc", true},
		{api.MPrefix, "a", "", false},
		{api.MPrefix, "a*", "abc", false},
		{api.MPrefix, "?", "abc", false},
		{api.MPrefix, "\xc3", "é", true},
		{api.MGlob, "a*", "abc", true},
		{api.MGlob, "a?c", "abc", true},
		{api.MGlob, "ab", "abc", false},
		{api.MGlob, "abc", "a*", false},
		{api.MGlob, "", "", true},
		{api.MGlob, "", "a", false},
		{api.MGlob, "*", "", true},
		{api.MGlob, "?", "", false},
	} {
		m := api.Matcher{Name: "a", Kind: c.kind, Text: c.text}
		if One(m, c.value) != c.want {
			t.Errorf("P4.2: kind %d, %q, %q: want %v", c.kind, c.text, c.value, c.want)
		}
		if m.Name = ""; One(m, c.value) != c.want {
			t.Errorf("P4.2: kind %d, %q, %q: the name plays a part", c.kind, c.text, c.value)
		}
	}
}

func TestOneOfOtherKinds(t *testing.T) {
	for _, kind := range otherKinds {
		for _, text := range []string{"", "a", "*"} {
			for _, value := range []string{"", "a", "b"} {
				if One(api.Matcher{Name: "a", Kind: kind, Text: text}, value) {
					t.Errorf("P4.2: kind %d, %q, %q", kind, text, value)
				}
			}
		}
	}
}

// A Text that Is refuses is matched all the same.
func TestOneOfTextsThatNoMatcherHas(t *testing.T) {
	long := strings.Repeat("v", api.MaxValue+70)
	for _, text := range []string{long, "a\nb"} {
		for kind, want := range map[int]bool{api.MEq: true, api.MNe: false, api.MPrefix: true, api.MGlob: true} {
			if One(api.Matcher{Name: "9", Kind: kind, Text: text}, text) != want {
				t.Errorf("P4.2: kind %d, %q: want %v", kind, text, want)
			}
		}
	}
}

func TestAll(t *testing.T) {
	l := []api.Pair{{Name: "a", Value: "abc"}, {Name: "b", Value: "x*"}}
	m := func(name string, kind int, text string) api.Matcher {
		return api.Matcher{Name: name, Kind: kind, Text: text}
	}
	of := func(m ...api.Matcher) []api.Matcher { return m }
	for i, c := range []struct {
		m    []api.Matcher
		want bool
	}{
		{nil, true},
		{of(), true},
		{of(m("a", api.MEq, "abc")), true},
		{of(m("b", api.MEq, "abc")), false},
		{of(m("a", api.MEq, "abc"), m("b", api.MEq, "x*")), true},
		{of(m("b", api.MEq, "x*"), m("a", api.MEq, "abc")), true},
		{of(m("a", api.MEq, "abc"), m("b", api.MEq, "x")), false},
		{of(m("a", api.MEq, "ab"), m("b", api.MEq, "x*")), false},
		{of(m("a", api.MEq, "abc"), m("a", api.MEq, "x"), m("b", api.MEq, "x*")), false},
		{of(m("q", api.MEq, "")), true},
		{of(m("q", api.MEq, "x")), false},
		{of(m("q", api.MNe, "")), false},
		{of(m("q", api.MNe, "x")), true},
		{of(m("q", api.MPrefix, "")), true},
		{of(m("q", api.MPrefix, "x")), false},
		{of(m("q", api.MGlob, "")), true},
		{of(m("q", api.MGlob, "*")), true},
		{of(m("q", api.MGlob, "?*")), false},
		{of(m("a", api.MEq, "")), false},
		{of(m("a", api.MNe, "")), true},
		{of(m("a", api.MPrefix, "")), true},
		{of(m("a", api.MGlob, "")), false},
		{of(m("a", api.MPrefix, "ab"), m("a", api.MGlob, "*c")), true},
		{of(m("a", api.MPrefix, "ab"), m("a", api.MGlob, "*b")), false},
		{of(m("a", api.MPrefix, "b"), m("a", api.MGlob, "*c")), false},
		{of(m("a", api.MEq, "abc"), m("a", api.MNe, "abc")), false},
		{of(m("a", api.MNe, "x"), m("a", api.MNe, "y"), m("a", api.MNe, "z")), true},
		{of(m("a", 0, "abc")), false},
		{of(m("q", 0, "")), false},
		{of(m("a", api.MEq, "abc"), m("b", 5, "x*")), false},
		{of(m("", api.MEq, "")), true},
		{of(m("A", api.MEq, "abc")), false},
	} {
		if All(l, c.m...) != c.want {
			t.Errorf("P4.2: row %d: want %v", i, c.want)
		}
	}
}

func TestAllOfWhatIsNoSet(t *testing.T) {
	yes := api.Matcher{Name: "a", Kind: api.MEq}
	if !All(nil) || !All([]api.Pair{}) || !All(nil, yes) || !All([]api.Pair{}, yes) {
		t.Error("P4.2: an empty set")
	}
	if yes.Kind = api.MNe; All(nil, yes) {
		t.Error("P4.2: an empty set has no label")
	}
	odd := []api.Pair{{Name: "9", Value: "\n"}, {Name: "", Value: "e"}, {Name: "a", Value: ""}}
	if !All(odd, api.Matcher{Name: "9", Kind: api.MEq, Text: "\n"}, api.Matcher{Name: "", Kind: api.MGlob, Text: "?"}, api.Matcher{Name: "a", Kind: api.MEq}) {
		t.Error("P4.2: names and values that no set has")
	}
}

func TestAllOfManyMatchers(t *testing.T) {
	l := []api.Pair{{Name: "a", Value: "abc"}}
	m := slices.Repeat([]api.Matcher{{Name: "a", Kind: api.MPrefix, Text: "a"}}, 1000)
	if !All(l, m...) {
		t.Error("P4.2: a thousand that match")
	}
	for _, i := range []int{0, 1, 500, 998, 999} {
		one := slices.Clone(m)
		one[i].Text = "b"
		if All(l, one...) {
			t.Errorf("P4.2: matcher %d doesn't match", i)
		}
	}
}

func TestAllOfAny(t *testing.T) {
	r := rand.New(rand.NewSource(42))
	names := []string{"a", "b", "c"}
	for range 20000 {
		values := map[string]string{}
		l := []api.Pair{}
		for _, name := range names {
			if v := anyText(r, "ab", 3); v != "" {
				values[name] = v
				l = append(l, api.Pair{Name: name, Value: v})
			}
		}
		m := []api.Matcher{}
		want := true
		for range r.Intn(4) {
			x := api.Matcher{Name: names[r.Intn(3)], Kind: r.Intn(6), Text: anyText(r, "ab*?", 3)}
			v := values[x.Name]
			one := map[int]bool{
				api.MEq: v == x.Text, api.MNe: v != x.Text, api.MPrefix: strings.Index(v, x.Text) == 0, api.MGlob: wantedGlob(x.Text, v),
			}
			want = want && one[x.Kind]
			m = append(m, x)
		}
		if All(l, m...) != want {
			t.Fatalf("P4.2: %v, %v: want %v", l, m, want)
		}
	}
}

// What is handed in stays as it was, the room behind it too.
func TestAllChangesNothing(t *testing.T) {
	pairs := []api.Pair{{Name: "b", Value: "abc"}, {Name: "a", Value: "x"}, {Name: "spare", Value: "spare"}}
	matchers := []api.Matcher{{Name: "b", Kind: api.MGlob, Text: "a*"}, {Name: "a", Kind: api.MNe, Text: "y"}, {Name: "b", Kind: api.MEq, Text: "q"}, {Name: "spare"}}
	for n := range matchers {
		p, m := slices.Clone(pairs), slices.Clone(matchers)
		want := n < 3
		if All(p[:2], m[:n]...) != want {
			t.Errorf("P4.2: %d matchers: want %v", n, want)
		}
		if !slices.Equal(p, pairs) || !slices.Equal(m, matchers) {
			t.Errorf("P4.2: %d matchers: what was handed in is changed", n)
		}
	}
}

func TestIs(t *testing.T) {
	most := strings.Repeat("v", api.MaxValue)
	kinds := []int{api.MEq, api.MNe, api.MPrefix, api.MGlob}
	for _, name := range []string{"a", "_", "Z9", api.NameLabel, strings.Repeat("n", api.MaxName)} {
		for _, kind := range kinds {
			for _, text := range []string{"", "a", "*", "?", `"\`, "\r", "\x00", "é", "\xff", most, strings.Repeat("\xff", api.MaxValue)} {
				if !Is(api.Matcher{Name: name, Kind: kind, Text: text}) {
					t.Errorf("P4.2: %q, kind %d, %q is one", name, kind, text)
				}
			}
		}
	}
	for _, kind := range kinds {
		for _, name := range []string{"", "9", "9a", "a b", "a-b", "a\n", "é", "a\xff", strings.Repeat("n", api.MaxName+1)} {
			if Is(api.Matcher{Name: name, Kind: kind, Text: "a"}) {
				t.Errorf("P4.2: the name %q, kind %d", name, kind)
			}
		}
		for _, text := range []string{most + "v", "\n", "a\n", "\na", "a\nb", most[1:] + "\n", strings.Repeat("é", api.MaxValue/2) + "e", strings.Repeat("v", 100000)} {
			if Is(api.Matcher{Name: "a", Kind: kind, Text: text}) {
				t.Errorf("P4.2: kind %d, a text of %d bytes that none has", kind, len(text))
			}
		}
	}
	for _, kind := range otherKinds {
		if Is(api.Matcher{Name: "a", Kind: kind, Text: "a"}) {
			t.Errorf("P4.2: kind %d", kind)
		}
	}
	if Is(api.Matcher{}) {
		t.Error("P4.2: nothing is no matcher")
	}
}

func TestPatternWithoutSigns(t *testing.T) {
	for _, pattern := range []string{"", "a", "abc", "a b", "aaa", "[a]", "a.c", `\`, "^a$", "é", "\xff\x00", "\n", strings.Repeat("long", 1000)} {
		m := api.Matcher{Name: "a", Kind: api.MGlob, Text: pattern}
		if !Glob(pattern, pattern) || !One(m, pattern) {
			t.Errorf("P4.3: %.20q doesn't match itself", pattern)
		}
		others := []string{pattern + "a", "a" + pattern, pattern + pattern + "b", pattern + "*", "*" + pattern, "?" + pattern, pattern + "\x00", pattern + "\n", "abd", "xbc", "ab"}
		if pattern != "" {
			others = append(others, "", pattern[1:], pattern[:len(pattern)-1], "*", "?", strings.ToUpper(pattern)+"A")
		}
		for _, s := range others {
			if Glob(pattern, s) || One(m, s) {
				t.Errorf("P4.3: %.20q matches %.20q", pattern, s)
			}
		}
	}
}

func TestAnyPatternWithoutSigns(t *testing.T) {
	r := rand.New(rand.NewSource(43))
	for range 20000 {
		pattern, s := anyText(r, "ab\xff", 4), anyText(r, "ab\xff*?", 4)
		if !Glob(pattern, pattern) || Glob(pattern, s) != (pattern == s) {
			t.Fatalf("P4.3: %q, %q", pattern, s)
		}
	}
}
