package label

import (
	"maps"
	"math/rand"
	"regexp"
	"slices"
	"strconv"
	"strings"
	"testing"

	"spillway/api"
)

func pairs(s ...string) []api.Pair {
	l := []api.Pair{}
	for i := 0; i < len(s); i += 2 {
		l = append(l, api.Pair{Name: s[i], Value: s[i+1]})
	}
	return l
}

// many: n pairs, by names.
func many(n int) []api.Pair {
	l := []api.Pair{}
	for i := range n {
		l = append(l, api.Pair{Name: "n" + strconv.Itoa(1000+i), Value: strconv.Itoa(i)})
	}
	return l
}

const spare = "spare"

// roomy: l with room behind it, so that a call that appends in place is caught.
func roomy(l []api.Pair) []api.Pair {
	r := slices.Concat(l, slices.Repeat(pairs(spare, spare), 40))
	return r[:len(l)]
}

func roomyNames(l []string) []string {
	r := slices.Concat(l, slices.Repeat([]string{spare}, 40))
	return r[:len(l)]
}

// watched: lists that are handed in, and what they and the room behind them were.
type watched struct {
	lists [][]api.Pair
	was   [][]api.Pair
	names []string
	said  []string
}

func watch(names []string, lists ...[]api.Pair) watched {
	w := watched{names: names, said: slices.Clone(names[:cap(names)])}
	for _, l := range lists {
		w.lists = append(w.lists, l)
		w.was = append(w.was, slices.Clone(l[:cap(l)]))
	}
	return w
}

// intact: what was handed in is as it was, also when the answer and its spare room are written over; and the answer is as it was when what was handed in is written over.
func (w watched) intact(t *testing.T, what string, out []api.Pair) {
	t.Helper()
	w.same(t, what)
	answer := slices.Clone(out)
	for i := range out[:cap(out)] {
		out[:cap(out)][i] = api.Pair{Name: "over", Value: "written"}
	}
	w.same(t, what)
	copy(out, answer)
	for _, l := range w.lists {
		for i := range l[:cap(l)] {
			l[:cap(l)][i] = api.Pair{Name: "under", Value: "written"}
		}
	}
	if !slices.Equal(out, answer) {
		t.Fatalf("%s: what was handed in is kept in the answer", what)
	}
}

func (w watched) same(t *testing.T, what string) {
	t.Helper()
	for i, l := range w.lists {
		if !slices.Equal(l[:cap(l)], w.was[i]) {
			t.Fatalf("%s: list %d that was handed in is changed", what, i)
		}
	}
	if !slices.Equal(w.names[:cap(w.names)], w.said) {
		t.Fatalf("%s: the names that were handed in are changed", what)
	}
}

func refused(l []api.Pair, e, want api.Errno) bool {
	return e == want && len(l) == 0
}

var nameForm = regexp.MustCompile(`^[A-Za-z_][A-Za-z0-9_]{0,19}$`)

func isSet(l []api.Pair) bool {
	for i, p := range l {
		if !nameForm.MatchString(p.Name) || p.Value == "" || len(p.Value) > 30 || strings.ContainsRune(p.Value, '\n') {
			return false
		}
		if i > 0 && strings.Compare(l[i-1].Name, p.Name) != -1 {
			return false
		}
	}
	return len(l) <= 8
}

// ofMap: the pairs of a map, by names.
func ofMap(m map[string]string) []api.Pair {
	l := []api.Pair{}
	for _, name := range slices.Sorted(maps.Keys(m)) {
		l = append(l, api.Pair{Name: name, Value: m[name]})
	}
	return l
}

func oneOf(r *rand.Rand, l ...string) string { return l[r.Intn(len(l))] }

func anyName(r *rand.Rand) string {
	return oneOf(r, "a", "b", "c", "d", "e", "f", "g", "h", "i", "A", "Z", "_", "__", "a0", "aa", "B_9", "z", api.NameLabel, api.NameLabel, strings.Repeat("n", 20))
}

func anyValue(r *rand.Rand) string {
	return oneOf(r, "1", "2", "up", "a b", "x,y", "}", "{", `"`, `\`, `\"`, `"\`, `\\`, `=`, `="`, `",b="`, "é", "\xff", "\x00", "\r", " ", "0a", strings.Repeat("v", 20), strings.Repeat("v", 21), strings.Repeat(`"`, 30), strings.Repeat(`\`, 30))
}

// anyPairs: mostly what can be a set, now and then a pair that can't, or none.
func anyPairs(r *rand.Rand, most int) []api.Pair {
	l := []api.Pair{}
	for range r.Intn(most + 1) {
		p := api.Pair{Name: anyName(r), Value: anyValue(r)}
		switch r.Intn(12) {
		case 0:
			p.Value = ""
		case 1:
			if r.Intn(4) == 0 {
				p.Value = oneOf(r, "\n", "a\nb", strings.Repeat("v", 31))
			}
		case 2:
			if r.Intn(4) == 0 {
				p.Name = oneOf(r, "", "0", "9a", "a-b", "é", "a b", "a\n", strings.Repeat("n", 21))
			}
		}
		l = append(l, p)
	}
	return l
}

func anySet(r *rand.Rand) []api.Pair {
	for {
		if l, e := Make(anyPairs(r, 12)...); e == api.OK {
			return l
		}
	}
}

// What a set is

func TestName(t *testing.T) {
	for s, want := range map[string]bool{
		"": false, "a": true, "Z": true, "_": true, "__name__": true, "A_9": true, "a0": true,
		"0": false, "9a": false, "a-b": false, "a b": false, " a": false, "a ": false, "a\n": false, "\n": false, "é": false, "aé": false, "a\x00": false, "a:b": false,
		strings.Repeat("a", 20): true, strings.Repeat("a", 21): false, strings.Repeat("_", 20): true, strings.Repeat("a", 5000): false,
		strings.Repeat("a", 19) + "9": true, strings.Repeat("a", 19) + "-": false, strings.Repeat("a", 20) + "\n": false,
	} {
		if Name(s) != want {
			t.Errorf("P3: Name(%q): %v", s, !want)
		}
	}
	for c := range 256 {
		b := string([]byte{byte(c)})
		for _, s := range []string{b, b + "a", "a" + b, "a" + b + "a"} {
			if Name(s) != nameForm.MatchString(s) {
				t.Errorf("P3: Name(%q): %v", s, Name(s))
			}
		}
	}
}

func TestIs(t *testing.T) {
	name, value := strings.Repeat("n", 20), strings.Repeat("v", 30)
	for i, c := range []struct {
		l    []api.Pair
		want bool
	}{
		{nil, true}, {pairs(), true}, {pairs("a", "1"), true}, {pairs("a", "1", "b", "1"), true},
		{many(8), true}, {many(9), false}, {many(1000), false},
		{pairs(name, value), true}, {pairs(name+"n", value), false}, {pairs(name, value+"v"), false},
		{pairs("", "1"), false}, {pairs("a", ""), false}, {pairs("1a", "1"), false},
		{pairs("a", "\n"), false}, {pairs("a", "1\n"), false}, {pairs("a", "\n1"), false}, {pairs("a", "\r"), true}, {pairs("a", "\x00\xff"), true},
		{pairs("a", strings.Repeat("é", 15)), true}, {pairs("a", strings.Repeat("é", 15)+"v"), false},
		{pairs("a", "1", "a", "1"), false}, {pairs("a", "1", "a", "2"), false}, {pairs("b", "1", "a", "1"), false},
		{pairs("a", "1", "c", "1", "b", "1"), false}, {pairs("Z", "1", "_", "1", "a", "1"), true}, {pairs("a", "1", "Z", "1"), false},
		{pairs("a", "1", "aa", "1", "b", "1"), true}, {pairs("aa", "1", "a", "1"), false}, {pairs("a1", "1", "aA", "1", "a_", "1", "aa", "1"), true},
		{pairs("a", "1", "b", ""), false}, {pairs("a", "1", "b-", "1"), false},
	} {
		if Is(c.l) != c.want {
			t.Errorf("P3: row %d: %v", i, !c.want)
		}
	}
}

// P3.1

func TestMake(t *testing.T) {
	name, value := strings.Repeat("n", 20), strings.Repeat("v", 30)
	for i, c := range []struct {
		in, want []api.Pair
		e        api.Errno
	}{
		{nil, nil, 0}, {pairs("a", ""), nil, 0}, {pairs("a", "", "b", "", "c", ""), nil, 0},
		{pairs("b", "2", "a", "1"), pairs("a", "1", "b", "2"), 0}, {pairs("c", "3", "b", "", "a", "1"), pairs("a", "1", "c", "3"), 0},
		{pairs("a", "1", "_", "2", "Z", "3"), pairs("Z", "3", "_", "2", "a", "1"), 0}, {pairs("aa", "1", "a", "1"), pairs("a", "1", "aa", "1"), 0},
		{pairs(name, value), pairs(name, value), 0}, {pairs(name+"n", value), nil, api.ErrLabel}, {pairs(name, value+"v"), nil, api.ErrLabel},
		{pairs("", "1"), nil, api.ErrLabel}, {pairs("", ""), nil, 0}, {pairs("1a", "1"), nil, api.ErrLabel}, {pairs("1a", ""), nil, 0}, {pairs(name+"n", ""), nil, 0}, {pairs("a", "1\n2"), nil, api.ErrLabel},
		{pairs("a", "1", "a", "1"), nil, api.ErrTwice}, {pairs("a", "1", "a", "2"), nil, api.ErrTwice}, {pairs("a", "1", "a", ""), nil, api.ErrTwice}, {pairs("a", "", "a", "1"), nil, api.ErrTwice}, {pairs("a", "", "a", ""), nil, api.ErrTwice},
		{pairs("b", "1", "a", "2", "b", "3"), nil, api.ErrTwice}, {pairs("a", "1", "b", "1", "c", "1", "a", "\n"), nil, api.ErrTwice}, {pairs("1a", "\n", "1a", ""), nil, api.ErrTwice}, {pairs("", "", "", ""), nil, api.ErrTwice},
		{many(8), many(8), 0}, {many(9), nil, api.ErrLabel}, {slices.Concat(many(8), pairs("z", "")), many(8), 0}, {slices.Concat(many(9), many(1)), nil, api.ErrTwice},
		{slices.Concat(pairs("z", "1"), many(7)), slices.Concat(many(7), pairs("z", "1")), 0},
	} {
		if got, e := Make(c.in...); e != c.e || !slices.Equal(got, c.want) {
			t.Errorf("P3.1: row %d: %v, %v", i, got, e)
		}
	}
	if l, e := Make(); e != api.OK || len(l) != 0 {
		t.Errorf("P3.1: of nothing: %v, %v", l, e)
	}
	empty := many(100000)
	for i := range empty {
		empty[i].Value = ""
	}
	if l, e := Make(empty...); e != api.OK || len(l) != 0 {
		t.Errorf("P3.1: of very many: %d, %v", len(l), e)
	}
}

func wantedMake(p []api.Pair) ([]api.Pair, api.Errno) {
	m := map[string]string{}
	for _, p := range p {
		if _, twice := m[p.Name]; twice {
			return nil, api.ErrTwice
		}
		m[p.Name] = p.Value
	}
	maps.DeleteFunc(m, func(_, value string) bool { return value == "" })
	l := ofMap(m)
	if !isSet(l) {
		return nil, api.ErrLabel
	}
	return l, api.OK
}

func TestMakeAny(t *testing.T) {
	r := rand.New(rand.NewSource(1))
	seen := map[api.Errno]int{}
	for range 20000 {
		p := roomy(anyPairs(r, r.Intn(12)))
		w := watch(nil, p)
		want, wantE := wantedMake(p)
		got, e := Make(p...)
		if e != wantE || !slices.Equal(got, want) {
			t.Fatalf("P3.1: Make(%q): %q, %v; want %q, %v", p, got, e, want, wantE)
		}
		if e == api.OK && !Is(got) || Is(p) != isSet(p) {
			t.Fatalf("P3.1: Make(%q): Is", p)
		}
		seen[e]++
		w.intact(t, "P3.1: Make", got)
	}
	if len(seen) != 3 {
		t.Errorf("P3.1: too few kinds of answers: %v", seen)
	}
}

func TestGet(t *testing.T) {
	l := pairs("A", "0", api.NameLabel, "up", "b", "1", "d", "2")
	for name, want := range map[string]string{"A": "0", api.NameLabel: "up", "b": "1", "d": "2", "": "", "a": "", "c": "", "bb": "", "e": "", "1": ""} {
		if got := Get(l, name); got != want {
			t.Errorf("P3.1: Get of %q: %q", name, got)
		}
	}
	if Get(nil, "a") != "" || Get(nil, "") != "" {
		t.Error("P3.1: Get of nothing")
	}
	// What is no set has values too.
	if Get(pairs("z", "1", "", "2", "a", "3\n"), "") != "2" || Get(pairs("z", "1", "a", "3\n"), "a") != "3\n" || Get(many(100), "n1099") != "99" {
		t.Error("P3.1: Get of what is no set")
	}
}

func TestWith(t *testing.T) {
	l := pairs(api.NameLabel, "up", "b", "1", "d", "2")
	for i, c := range []struct {
		l, p, want []api.Pair
		e          api.Errno
	}{
		{l, nil, l, 0}, {nil, nil, nil, 0}, {nil, pairs("a", ""), nil, 0}, {nil, pairs("b", "2", "a", "1"), pairs("a", "1", "b", "2"), 0},
		{l, pairs("c", "x"), pairs(api.NameLabel, "up", "b", "1", "c", "x", "d", "2"), 0},
		{l, pairs("A", "x", "z", "y"), pairs("A", "x", api.NameLabel, "up", "b", "1", "d", "2", "z", "y"), 0},
		{l, pairs("b", "x"), pairs(api.NameLabel, "up", "b", "x", "d", "2"), 0},
		{l, pairs("b", ""), pairs(api.NameLabel, "up", "d", "2"), 0}, {l, pairs(api.NameLabel, ""), l[1:], 0}, {l, pairs("q", ""), l, 0},
		{l, pairs("d", "", "b", "", api.NameLabel, ""), nil, 0},
		// one behind the other
		{l, pairs("b", "", "b", "3"), pairs(api.NameLabel, "up", "b", "3", "d", "2"), 0}, {l, pairs("b", "3", "b", ""), pairs(api.NameLabel, "up", "d", "2"), 0},
		{l, pairs("b", "3", "c", "4", "b", "5", "c", "6"), pairs(api.NameLabel, "up", "b", "5", "c", "6", "d", "2"), 0},
		{l, pairs("b", "3", "b", "2", "b", "1"), l, 0},
		// only what comes of all must be a set
		{l, pairs("b", "\n", "b", "3"), pairs(api.NameLabel, "up", "b", "3", "d", "2"), 0}, {l, pairs("b", "3", "b", "\n"), nil, api.ErrLabel},
		{l, pairs("!", "x", "!", ""), l, 0}, {l, pairs("!", ""), l, 0}, {l, pairs("", ""), l, 0}, {l, pairs("!", "x"), nil, api.ErrLabel}, {l, pairs("", "x"), nil, api.ErrLabel},
		{l, pairs("b", strings.Repeat("v", 30)), pairs(api.NameLabel, "up", "b", strings.Repeat("v", 30), "d", "2"), 0}, {l, pairs("b", strings.Repeat("v", 31)), nil, api.ErrLabel},
		{l, pairs(strings.Repeat("n", 21), "1"), nil, api.ErrLabel},
		{many(7), pairs("z", "1"), slices.Concat(many(7), pairs("z", "1")), 0}, {many(8), pairs("z", "1"), nil, api.ErrLabel}, {many(8), pairs("z", "1", "n1000", ""), slices.Concat(many(8)[1:], pairs("z", "1")), 0},
		{many(8), pairs("z", "1", "z", ""), many(8), 0}, {nil, many(8), many(8), 0}, {nil, many(9), nil, api.ErrLabel},
		// on what is no set
		{pairs("z", "1", "a", "1"), nil, nil, api.ErrLabel}, {pairs("z", "1", "a", "1"), pairs("z", ""), nil, api.ErrLabel}, {pairs("a", ""), nil, nil, api.ErrLabel}, {pairs("a", ""), pairs("a", "1"), nil, api.ErrLabel},
		{pairs("a", "1", "a", "1"), pairs("a", "2"), nil, api.ErrLabel}, {many(9), pairs("n1000", ""), nil, api.ErrLabel}, {pairs("!", "1"), pairs("!", ""), nil, api.ErrLabel},
	} {
		if got, e := With(c.l, c.p...); e != c.e || !slices.Equal(got, c.want) {
			t.Errorf("P3.1: row %d: %q, %v", i, got, e)
		}
	}
	if got, e := With(l); e != api.OK || !slices.Equal(got, l) {
		t.Errorf("P3.1: with nothing: %q, %v", got, e)
	}
	if got, e := With(l, slices.Concat(many(100000), pairs("b", "9"))...); !refused(got, e, api.ErrLabel) {
		t.Errorf("P3.1: with very many: %d, %v", len(got), e)
	}
}

func wantedWith(l, p []api.Pair) ([]api.Pair, api.Errno) {
	if !isSet(l) {
		return nil, api.ErrLabel
	}
	m := map[string]string{}
	for _, p := range slices.Concat(l, p) {
		m[p.Name] = p.Value
		if p.Value == "" {
			delete(m, p.Name)
		}
	}
	got := ofMap(m)
	if !isSet(got) {
		return nil, api.ErrLabel
	}
	return got, api.OK
}

func TestWithAny(t *testing.T) {
	r := rand.New(rand.NewSource(2))
	seen := map[api.Errno]int{}
	for i := range 20000 {
		l, p := roomy(anySet(r)), roomy(anyPairs(r, 8))
		if i%10 == 0 {
			l = roomy(anyPairs(r, 3))
		}
		w := watch(nil, l, p)
		want, wantE := wantedWith(l, p)
		got, e := With(l, p...)
		if e != wantE || !slices.Equal(got, want) {
			t.Fatalf("P3.1: With(%q, %q): %q, %v; want %q, %v", l, p, got, e, want, wantE)
		}
		seen[e]++
		w.intact(t, "P3.1: With", got)
	}
	if len(seen) != 2 {
		t.Errorf("P3.1: too few kinds of answers: %v", seen)
	}
}

func TestKeepAndWithout(t *testing.T) {
	l := pairs("A", "0", api.NameLabel, "up", "b", "1", "d", "2")
	none := []api.Pair{}
	for i, c := range []struct {
		l             []api.Pair
		names         []string
		keep, without []api.Pair
	}{
		{l, nil, none, pairs("A", "0", "b", "1", "d", "2")},
		{nil, nil, none, none}, {nil, []string{"a"}, none, none},
		{l, []string{api.NameLabel}, pairs(api.NameLabel, "up"), pairs("A", "0", "b", "1", "d", "2")},
		{l, []string{"d"}, pairs("d", "2"), pairs("A", "0", "b", "1")},
		{l, []string{"d", api.NameLabel, "q", "A"}, pairs("A", "0", api.NameLabel, "up", "d", "2"), pairs("b", "1")},
		{l, []string{"d", "d", "b", "d"}, pairs("b", "1", "d", "2"), pairs("A", "0")},
		{l, []string{"d", "b", "A", api.NameLabel}, l, none}, {l, []string{"d", "b", "A"}, pairs("A", "0", "b", "1", "d", "2"), none},
		{l, []string{"", "a", "dd", "D", "!"}, none, pairs("A", "0", "b", "1", "d", "2")},
		// what is no set has pairs too
		{pairs("z", "", "a", "1", "z", "2\n", api.NameLabel, "x", "", "3"), []string{"z", ""}, pairs("z", "", "z", "2\n", "", "3"), pairs("a", "1")},
		{many(100), []string{"n1000", "n1099"}, slices.Concat(many(1), many(100)[99:]), many(100)[1:99]},
	} {
		in, names := roomy(c.l), roomyNames(c.names)
		w := watch(names, in)
		got := Keep(in, names...)
		if !slices.Equal(got, c.keep) {
			t.Errorf("P3.1: row %d: Keep: %q", i, got)
		}
		w.intact(t, "P3.1: Keep", got)
		in = roomy(c.l)
		w = watch(names, in)
		got = Without(in, names...)
		if !slices.Equal(got, c.without) {
			t.Errorf("P3.1: row %d: Without: %q", i, got)
		}
		w.intact(t, "P3.1: Without", got)
	}
	if len(Keep(l)) != 0 || !slices.Equal(Without(l), pairs("A", "0", "b", "1", "d", "2")) {
		t.Error("P3.1: of no names")
	}
}

func TestKeepAndWithoutAreTwoHalves(t *testing.T) {
	r := rand.New(rand.NewSource(3))
	for range 5000 {
		l, names := anyPairs(r, 9), []string{}
		for range r.Intn(5) {
			names = append(names, anyName(r))
		}
		keep, without := []api.Pair{}, []api.Pair{}
		for _, p := range l {
			if strings.Contains("|"+strings.Join(names, "|")+"|", "|"+p.Name+"|") && p.Name != "" {
				keep = append(keep, p)
			} else if p.Name != api.NameLabel {
				without = append(without, p)
			}
		}
		if got := Keep(l, names...); !slices.Equal(got, keep) {
			t.Fatalf("P3.1: Keep(%q, %q): %q", l, names, got)
		}
		if got := Without(l, names...); !slices.Equal(got, without) {
			t.Fatalf("P3.1: Without(%q, %q): %q", l, names, got)
		}
	}
}

func TestCmpInOrder(t *testing.T) {
	rows := [][]api.Pair{
		{}, pairs("", ""), pairs("", "", "", ""), pairs("", "a"), pairs("A", "9"), pairs("_", "1"), pairs("a", ""), pairs("a", "", "a", ""), pairs("a", "1"), pairs("a", "1", "", ""), pairs("a", "1", "b", "1"), pairs("a", "1", "b", "1", "c", "0"), pairs("a", "1", "b", "2"), pairs("a", "1", "c", "0"),
		pairs("a", "10"), pairs("a", "2"), pairs("a", "2", "a", "1"), pairs("a", "Z"), pairs("a", "a"), pairs("a", "aa"), pairs("a", "\x7f"), pairs("a", "é"), pairs("a", "\xff"), pairs("aa", "0"), pairs("b", "0"), pairs("b", "0", "a", "0"),
	}
	for i, a := range rows {
		for k, b := range rows {
			want := 0
			switch {
			case i < k:
				want = -1
			case i > k:
				want = 1
			}
			if got := Cmp(a, b); got != want {
				t.Errorf("P3.1: rows %d, %d: %d", i, k, got)
			}
		}
	}
	if Cmp(nil, nil) != 0 || Cmp(nil, []api.Pair{}) != 0 || Cmp(nil, rows[1]) != -1 || Cmp(rows[1], nil) != 1 {
		t.Error("P3.1: Cmp of nil")
	}
}

func TestCmpAny(t *testing.T) {
	// Bytes that no name or value of these has stand for the ends, so that texts are in the same order.
	text := func(l []api.Pair) string {
		s := ""
		for _, p := range l {
			s += "\x02" + p.Name + "\x01" + p.Value + "\x01"
		}
		return s
	}
	r := rand.New(rand.NewSource(4))
	for range 20000 {
		a, b := []api.Pair{}, []api.Pair{}
		for range r.Intn(4) {
			p := api.Pair{Name: oneOf(r, "a", "b", "aa", ""), Value: oneOf(r, "1", "2", "11", "")}
			a, b = append(a, p), append(b, p)
		}
		a, b = append(a, pairs(oneOf(r, "a", "b", "aa"), oneOf(r, "1", "11", "2"))[:r.Intn(2)]...), append(b, pairs(oneOf(r, "a", "b"), oneOf(r, "1", "2"))[:r.Intn(2)]...)
		if got := Cmp(a, b); got != strings.Compare(text(a), text(b)) {
			t.Fatalf("P3.1: Cmp(%q, %q): %d", a, b, got)
		}
	}
}

// P3.2

func printed() map[string][]api.Pair {
	long := strings.Repeat("v", 21)
	return map[string][]api.Pair{
		`{}`:                                     nil,
		`up`:                                     pairs(api.NameLabel, "up"),
		`_`:                                      pairs(api.NameLabel, "_"),
		`__name__`:                               pairs(api.NameLabel, "__name__"),
		long[1:]:                                 pairs(api.NameLabel, long[1:]),
		`{__name__="` + long + `"}`:              pairs(api.NameLabel, long),
		`{__name__="1up"}`:                       pairs(api.NameLabel, "1up"),
		`{__name__="a b",z="q"}`:                 pairs(api.NameLabel, "a b", "z", "q"),
		`{A="1",__name__="\"up\"",z="q"}`:        pairs("A", "1", api.NameLabel, `"up"`, "z", "q"),
		`{__name__="{}"}`:                        pairs(api.NameLabel, "{}"),
		`{__name__="up{a=\"1\"}"}`:               pairs(api.NameLabel, `up{a="1"}`),
		`up{job="a"}`:                            pairs(api.NameLabel, "up", "job", "a"),
		`up{A="1",b="2"}`:                        pairs("A", "1", api.NameLabel, "up", "b", "2"),
		`{a="1"}`:                                pairs("a", "1"),
		`{a="1",b="2",c="3"}`:                    pairs("a", "1", "b", "2", "c", "3"),
		`{a="\""}`:                               pairs("a", `"`),
		`{a="\\"}`:                               pairs("a", `\`),
		`{a="\\\""}`:                             pairs("a", `\"`),
		`{a="\"\\"}`:                             pairs("a", `"\`),
		`{a="\\\\",b="\"\""}`:                    pairs("a", `\\`, "b", `""`),
		`{a="\\n"}`:                              pairs("a", `\n`),
		`{a=" ",b=",",c="}",d="=",e="{"}`:        pairs("a", " ", "b", ",", "c", "}", "d", "=", "e", "{"),
		`{a="=\"1\",b=\"2"}`:                     pairs("a", `="1",b="2`),
		`{a="é",b="` + "\xff\x00\r" + `"}`:       pairs("a", "é", "b", "\xff\x00\r"),
		`{a="` + strings.Repeat(`\"`, 30) + `"}`: pairs("a", strings.Repeat(`"`, 30)),
		`{a="` + strings.Repeat(`\\`, 30) + `"}`: pairs("a", strings.Repeat(`\`, 30)),
	}
}

func TestPrintAndParse(t *testing.T) {
	for text, l := range printed() {
		in := roomy(l)
		w := watch(nil, in)
		if got := Print(in); got != text {
			t.Errorf("P3.2: Print(%q): %s", l, got)
		}
		w.same(t, "P3.2: Print")
		if got, e := Parse(text); e != api.OK || !slices.Equal(got, l) {
			t.Errorf("P3.2: Parse(%s): %q, %v", text, got, e)
		}
	}
}

func TestPrintOfNoSet(t *testing.T) {
	for _, l := range [][]api.Pair{
		pairs("b", "1", "a", "1"), pairs("a", ""), pairs("", "a"), pairs("1", "a"), pairs("a", "\n"), pairs("a", "1", "a", "1"), many(9), pairs(api.NameLabel, ""), pairs(api.NameLabel, "up", api.NameLabel, "up"), pairs(api.NameLabel, "up\n"), pairs("a", "1", api.NameLabel, "up"), pairs("a", strings.Repeat("v", 31)), pairs(strings.Repeat("n", 21), "1"),
	} {
		if got := Print(l); got != "" {
			t.Errorf("P3.2: Print(%q): %s", l, got)
		}
	}
}

func TestParseOfNoText(t *testing.T) {
	for _, s := range []string{
		// a brace or a quote missing
		``, `{`, `}`, `up{`, `up}`, `{a="1"`, `a="1"}`, `a="1"`, `up{a="1"`, `{a="1}`, `{a=1"}`, `{a=1}`, `{a="1`, `{a=}`, `{a=`, `{a`, `{a}`, `{="1"}`, `{"1"}`, `{a"1"}`, `{a="1",b="2}`, `{a="1,b="2"}`, `{a="1\"}`, `{a="1\`,
		// one too many
		`{{}`, `{}}`, `{}{}`, `{{}}`, `up{{a="1"}`, `{a="1"}}`, `{{a="1"}}`, `{a=""1"}`, `{a="1""}`, `{a=="1"}`, `"{a="1"}"`, `{a="1"}"`, `{a="1",,b="2"}`, `{a="""}`, `up"`, `"up"`,
		// a comma that isn't between two
		`{,}`, `{a="1",}`, `{,a="1"}`, `up,`, `,up`, `{a="1"},`, `{a="1"b="2"}`, `{a="1";b="2"}`, `up{,}`,
		// blanks
		` `, ` {}`, `{} `, `{ }`, ` up`, `up `, `up {a="1"}`, `up{a="1"} `, `{ a="1"}`, `{a ="1"}`, `{a= "1"}`, `{a="1" }`, `{a="1", b="2"}`, `{a="1" ,b="2"}`, "{a=\"1\"}\n", "up\n", "\nup", "{}\n", "{a=\"1\",\nb=\"2\"}",
		// names out of order, twice
		`{b="1",a="2"}`, `{a="1",a="1"}`, `{a="1",a="2"}`, `{a="1",Z="2"}`, `{aa="1",a="2"}`, `{a="1",b="2",a="3"}`,
		// a set, but told otherwise
		`up{}`, `{__name__="up"}`, `{__name__="up",a="1"}`, `{A="1",__name__="up"}`, `{a=""}`, `{a="1",b=""}`, `{a="",b="1"}`, `up{a=""}`, `{a="\x"}`, `{a="\n"}`, `{a="\1"}`, `{a="1\,"}`, `{a='1'}`, "{a=`1`}", `__name__="up"`,
		// the metric's name twice, or no name ahead of the brace
		`up{__name__="up"}`, `up{__name__="a b"}`, `up{__name__=""}`, `a b{}`, `a b`, `1up`, `1up{a="1"}`, `a-b{a="1"}`, `é`, strings.Repeat("v", 21), strings.Repeat("v", 21) + `{a="1"}`, `{__name__=""}`, `up up`, `upup{a="1"}up`,
		// no labels of a set
		`{1a="1"}`, `{a-b="1"}`, `{é="1"}`, `{="1"}`, "{a=\"\n\"}", "{a=\"b\nc\"}", `{a="` + strings.Repeat("v", 31) + `"}`, `{` + strings.Repeat("n", 21) + `="1"}`, `{"a"="1"}`,
		`{a="1"}x`, `x{a="1"}x`, `{a="1"}{b="2"}`, `\`, `\\`, `{\}`, "\x00", "\xff", `"`, `=`, `="`, `=""`, `{="`, `{=""}`,
	} {
		if l, e := Parse(s); !refused(l, e, api.ErrLabel) {
			t.Errorf("P3.2: Parse(%q): %q, %v", s, l, e)
		}
	}
	nine := "{"
	for i, p := range many(9) {
		if l, e := Parse(strings.TrimSuffix(nine, ",") + "}"); e != api.OK || !slices.Equal(l, many(i)) {
			t.Errorf("P3.2: Parse of %d labels: %q, %v", i, l, e)
		}
		nine += p.Name + `="` + p.Value + `",`
	}
	if l, e := Parse(strings.TrimSuffix(nine, ",") + "}"); !refused(l, e, api.ErrLabel) {
		t.Errorf("P3.2: Parse of nine labels: %q, %v", l, e)
	}
	for _, s := range []string{`{`, `a`, `"`, `\`, `="`, `a="1",`, `{a="`, `,`} {
		if l, e := Parse("{" + strings.Repeat(s, 100000)); !refused(l, e, api.ErrLabel) {
			t.Errorf("P3.2: Parse of very many %s: %d, %v", s, len(l), e)
		}
	}
}

var (
	textForm = regexp.MustCompile(`^([^{}",=\\]*)(\{(?:[^{}",=\\]+="(?:[^"\\]|\\["\\])+"(?:,[^{}",=\\]+="(?:[^"\\]|\\["\\])+")*)?\})?$`)
	pairForm = regexp.MustCompile(`([^{}",=\\]+)="((?:[^"\\]|\\["\\])+)"`)
	backed   = regexp.MustCompile(`\\(.)`)
)

// wantedParse: the same by forms of texts.
func wantedParse(s string) ([]api.Pair, api.Errno) {
	m := textForm.FindStringSubmatch(s)
	if m == nil || m[1] == "" && m[2] == "" || m[1] != "" && (m[2] == "{}" || !nameForm.MatchString(m[1])) {
		return nil, api.ErrLabel
	}
	l := []api.Pair{}
	for _, f := range pairForm.FindAllStringSubmatch(m[2], -1) {
		p := api.Pair{Name: f[1], Value: backed.ReplaceAllString(f[2], "$1")}
		if p.Name == api.NameLabel && (m[1] != "" || nameForm.MatchString(p.Value)) {
			return nil, api.ErrLabel
		}
		l = append(l, p)
	}
	if !isSet(l) {
		return nil, api.ErrLabel
	}
	if m[1] != "" {
		l = append(l, api.Pair{Name: api.NameLabel, Value: m[1]})
		slices.SortFunc(l, func(a, b api.Pair) int { return strings.Compare(a.Name, b.Name) })
	}
	if len(l) > 8 {
		return nil, api.ErrLabel
	}
	return l, api.OK
}

func parsedAsWanted(t *testing.T, s string) api.Errno {
	t.Helper()
	want, wantE := wantedParse(s)
	got, e := Parse(s)
	if e != wantE || !slices.Equal(got, want) {
		t.Fatalf("P3.2: Parse(%q): %q, %v; want %q, %v", s, got, e, want, wantE)
	}
	if e == api.OK && (!Is(got) || Print(got) != s) {
		t.Fatalf("P3.2: Parse(%q): %q, which is told as %q", s, got, Print(got))
	}
	return e
}

const signs = "{}=\",\\ \na1Z_é\x00\xff"

func TestParseOfTextsNearby(t *testing.T) {
	for s := range printed() {
		for i := range len(s) {
			parsedAsWanted(t, s[:i])
			parsedAsWanted(t, s[i:])
			parsedAsWanted(t, s[:i]+s[i+1:])
			parsedAsWanted(t, s[:i]+s[i:i+1]+s[i:])
			for k := range len(signs) {
				parsedAsWanted(t, s[:i]+signs[k:k+1]+s[i:])
				parsedAsWanted(t, s[:i]+signs[k:k+1]+s[i+1:])
				parsedAsWanted(t, s+signs[k:k+1])
			}
		}
	}
}

func TestParseOfShortTexts(t *testing.T) {
	const few = `a{}=",\`
	good := 0
	for n := range 8 {
		most := 1
		for range n {
			most *= len(few)
		}
		for number := range most {
			b := make([]byte, n)
			for i := range b {
				b[i] = few[number%len(few)]
				number /= len(few)
			}
			s := string(b)
			if n == 7 && (b[0] == '}' || b[0] == '=' || b[0] == '"' || b[0] == ',' || b[0] == '\\') {
				continue // the shorter ones that begin so are tried
			}
			if parsedAsWanted(t, s) == api.OK {
				good++
			}
		}
	}
	if good < 10 {
		t.Errorf("P3.2: too few texts of sets: %d", good)
	}
}

func TestParseOfAnyText(t *testing.T) {
	r := rand.New(rand.NewSource(5))
	parts := []string{`{`, `}`, `="`, `"`, `,`, `\`, `\"`, `\\`, `a`, `b`, `__name__`, `up`, `a="1"`, `b="2"`, `,c="3"`, "\n", ` `, `{}`, `{a="1"}`}
	seen := map[api.Errno]int{}
	for range 50000 {
		s := ""
		for range r.Intn(7) {
			s += parts[r.Intn(len(parts))]
		}
		seen[parsedAsWanted(t, s)]++
	}
	if seen[api.OK] < 100 {
		t.Errorf("P3.2: too few texts of sets: %v", seen)
	}
}

// P3.3

func TestPrintedIsReadAsTheSame(t *testing.T) {
	r := rand.New(rand.NewSource(6))
	told := map[string][]api.Pair{}
	for range 30000 {
		l := anySet(r)
		s := Print(l)
		got, e := Parse(s)
		if e != api.OK || !slices.Equal(got, l) || Cmp(got, l) != 0 {
			t.Fatalf("P3.3: %q is told as %s and read as %q, %v", l, s, got, e)
		}
		if was, ok := told[s]; ok && !slices.Equal(was, l) {
			t.Fatalf("P3.3: %q and %q are told as %s", was, l, s)
		}
		told[s] = l
	}
}

func TestPrintedIsReadAsTheSameForEveryByte(t *testing.T) {
	for a := range 256 {
		for b := range 256 {
			value := string([]byte{byte(a), byte(b)})
			for _, l := range [][]api.Pair{pairs("n", value), pairs(api.NameLabel, value), pairs("A", value, api.NameLabel, value, "n", value)} {
				got, e := Parse(Print(l))
				if a == '\n' || b == '\n' {
					if !refused(got, e, api.ErrLabel) {
						t.Fatalf("P3.3: %q is read as %q, %v", l, got, e)
					}
				} else if e != api.OK || !slices.Equal(got, l) {
					t.Fatalf("P3.3: %q is told as %s and read as %q, %v", l, Print(l), got, e)
				}
			}
		}
	}
}

func TestAnswersAreNew(t *testing.T) {
	s := `up{a="1",b="2"}`
	first, _ := Parse(s)
	second, _ := Parse(s)
	first = first[:cap(first)]
	for i := range first {
		first[i] = api.Pair{Name: "over", Value: "written"}
	}
	if Print(second) != s {
		t.Error("P3.2: two answers share memory")
	}
	l := pairs("a", "1", "b", "2")
	kept := [][]api.Pair{Keep(l, "a", "b"), Without(l), Keep(l, "a", "b"), Without(l)}
	for _, k := range kept[:2] {
		k[0] = api.Pair{Name: "over", Value: "written"}
	}
	if !slices.Equal(kept[2], l) || !slices.Equal(kept[3], l) {
		t.Error("P3.1: two answers share memory")
	}
}
