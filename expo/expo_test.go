package expo

import (
	"math"
	"math/rand"
	"regexp"
	"slices"
	"strconv"
	"strings"
	"testing"

	"spillway/api"
	"spillway/fix"
	"spillway/label"
)

var (
	kindWords  = []string{"untyped", "counter", "gauge"}
	otherKinds = []int{-1, 3, 4, -2, 256, 257, math.MinInt, math.MaxInt}
	otherTimes = []int{-1, -2, api.MaxTime + 1, math.MinInt, math.MaxInt}
	mostName   = strings.Repeat("n", api.MaxName)
	mostValue  = strings.Repeat("v", api.MaxValue)
	mostNum    = api.Num{N: math.MaxInt64}
	leastNum   = api.Num{N: -math.MaxInt64}
	ovf        = api.Num{Ovf: true}
)

func pairs(s ...string) []api.Pair {
	l := []api.Pair{}
	for i := 0; i < len(s); i += 2 {
		l = append(l, api.Pair{Name: s[i], Value: s[i+1]})
	}
	return l
}

// metric: a set of that name, with those other pairs.
func metric(name string, s ...string) []api.Pair {
	return append(pairs(api.NameLabel, name), pairs(s...)...)
}

func sample(l []api.Pair, v api.Num) api.Scraped {
	return api.Scraped{Labels: l, V: v}
}

func timed(l []api.Pair, v api.Num, t int) api.Scraped {
	return api.Scraped{Labels: l, V: v, T: t, HasT: true}
}

func kinded(s api.Scraped, kind int) api.Scraped {
	s.Kind = kind
	return s
}

func samples(s ...api.Scraped) []api.Scraped { return s }

// same: by what is told, as an empty list and a nil one are the same.
func same(a, b api.Scraped) bool {
	return slices.Equal(a.Labels, b.Labels) && a.V == b.V && a.T == b.T && a.HasT == b.HasT && a.Kind == b.Kind
}

func sameAll(a, b []api.Scraped) bool {
	return slices.EqualFunc(a, b, same)
}

// wide: a sample whose line has n bytes, n from 180 to 383.
func wide(n int) api.Scraped {
	l := metric("up")
	left := n - 180
	for i := range 7 {
		more := min(left, api.MaxValue-1)
		left -= more
		l = append(l, api.Pair{Name: "a" + strings.Repeat("a", 18) + strconv.Itoa(i), Value: strings.Repeat("v", 1+more)})
	}
	return sample(l, fix.Of(1))
}

func TestWide(t *testing.T) {
	for _, n := range []int{180, 181, 299, 300, 301, 383} {
		if s := wide(n); len(label.Print(s.Labels))+2 != n {
			t.Fatalf("wide(%d) has another length", n)
		}
	}
}

// P6.1

func TestLineOfSamples(t *testing.T) {
	for i, c := range []struct {
		s    string
		want api.Scraped
	}{
		{`up{job="a"} 1 5`, timed(metric("up", "job", "a"), fix.Of(1), 5)},
		{`up{job="a"} 1`, sample(metric("up", "job", "a"), fix.Of(1))},
		{`up 1`, sample(metric("up"), fix.Of(1))},
		{`up 1 0`, timed(metric("up"), fix.Of(1), 0)},
		{`up 0 0`, timed(metric("up"), fix.Of(0), 0)},
		{`up 1 7`, timed(metric("up"), fix.Of(1), 7)},
		{`up 1 10`, timed(metric("up"), fix.Of(1), 10)},
		{`up 1 100`, timed(metric("up"), fix.Of(1), 100)},
		{`up 1 101`, timed(metric("up"), fix.Of(1), 101)},
		{`up 1 999999`, timed(metric("up"), fix.Of(1), 999999)},
		{`up 1 1000000`, timed(metric("up"), fix.Of(1), api.MaxTime)},
		{`up -0.5`, sample(metric("up"), api.Num{N: -500000})},
		{`up -0`, sample(metric("up"), fix.Of(0))},
		{`up 1.50`, sample(metric("up"), api.Num{N: 1500000})},
		{`up ovf`, sample(metric("up"), ovf)},
		{`up 9999999999999 3`, timed(metric("up"), ovf, 3)},
		{`up 9223372036854.775807`, sample(metric("up"), mostNum)},
		{`up -9223372036854.775807 1`, timed(metric("up"), leastNum, 1)},
		{`_ 1`, sample(metric("_"), fix.Of(1))},
		{`ovf ovf`, sample(metric("ovf"), ovf)},
		{mostName + ` 2`, sample(metric(mostName), fix.Of(2))},
		{`up{a="` + mostValue + `"} 2`, sample(metric("up", "a", mostValue), fix.Of(2))},
		{`up{a="x y"} 1`, sample(metric("up", "a", "x y"), fix.Of(1))},
		{`up{a=" "} 1`, sample(metric("up", "a", " "), fix.Of(1))},
		{`up{a="  "} 1 2`, timed(metric("up", "a", "  "), fix.Of(1), 2)},
		{`up{a=" 1 2",b="3 "} 4 5`, timed(metric("up", "a", " 1 2", "b", "3 "), fix.Of(4), 5)},
		{`up{a="\""} 1`, sample(metric("up", "a", `"`), fix.Of(1))},
		{`up{a="\" 1"} 1`, sample(metric("up", "a", `" 1`), fix.Of(1))},
		{`up{a="x\" \"y"} 1`, sample(metric("up", "a", `x" "y`), fix.Of(1))},
		{`up{a="\\"} 1`, sample(metric("up", "a", `\`), fix.Of(1))},
		{`up{a="\\",b=" "} 1`, sample(metric("up", "a", `\`, "b", " "), fix.Of(1))},
		{`up{a="\\\" "} 1`, sample(metric("up", "a", `\" `), fix.Of(1))},
		{`up{a="\\\\ "} 1`, sample(metric("up", "a", `\\ `), fix.Of(1))},
		{`up{a="}",b="{"} 1`, sample(metric("up", "a", "}", "b", "{"), fix.Of(1))},
		{`up{a="#"} 1`, sample(metric("up", "a", "#"), fix.Of(1))},
		{"up{a=\"\xff\x00\r\t\"} 1", sample(metric("up", "a", "\xff\x00\r\t"), fix.Of(1))},
		{`up{a="é ü"} 1`, sample(metric("up", "a", "é ü"), fix.Of(1))},
		{`up{A="1",Z="2",_a="3",a="4"} 1`, sample(pairs("A", "1", "Z", "2", api.NameLabel, "up", "_a", "3", "a", "4"), fix.Of(1))},
		{`up{a="1",b="2",c="3",d="4",e="5",f="6",g="7"} 1`, sample(metric("up", "a", "1", "b", "2", "c", "3", "d", "4", "e", "5", "f", "6", "g", "7"), fix.Of(1))},
	} {
		if s, e := Line(c.s); e != api.OK || !same(s, c.want) {
			t.Errorf("P6.1: row %d: %q: %v, %v", i, c.s, s, e)
		}
	}
}

func TestLineRefuses(t *testing.T) {
	for i, c := range []struct {
		s string
		e api.Errno
	}{
		// The words.
		{"", api.ErrForm}, {"up", api.ErrForm}, {"1", api.ErrForm}, {"up\t1", api.ErrForm}, {"up\n1", api.ErrForm}, {`up{a="x"}1`, api.ErrForm}, {"up 1 2 3", api.ErrForm}, {"up 1 2 3 4", api.ErrForm}, {"   ", api.ErrForm}, {"up 1 2 ", api.ErrForm}, {" up 1 2", api.ErrForm}, {"up  1 2", api.ErrForm}, {"up 1  2", api.ErrForm}, {"up   1", api.ErrForm}, {" up 1 ", api.ErrForm}, {"up 1  ", api.ErrForm}, {"  up 1", api.ErrForm}, {`up{a="x} 1`, api.ErrForm}, {`up{a="x} 1 2`, api.ErrForm}, {`up{a="x\"} 1`, api.ErrForm}, {`up{a="x\\\"} 1 2`, api.ErrForm}, {`"up 1"`, api.ErrForm}, {`"up 1\`, api.ErrForm}, {`"`, api.ErrForm}, {`up{a=\"x y\"} 1 2`, api.ErrForm}, {`up {a="x"} 1 2`, api.ErrForm}, {`up{a="x", b="y"} 1 2`, api.ErrForm},
		// Empty words are words.
		{" ", api.ErrLabel}, {"  ", api.ErrLabel}, {" 1", api.ErrLabel}, {" up 1", api.ErrLabel}, {"up ", api.ErrNum}, {"up  ", api.ErrNum}, {"up  1", api.ErrNum}, {"up 1 ", api.ErrTime},
		// The set.
		{`{} 1`, api.ErrLabel}, {`{a="1"} 1`, api.ErrLabel}, {`{__name__="up"} 1`, api.ErrLabel}, {`{__name__="a b"} 1`, api.ErrLabel}, {`{__name__="9",a="x"} 1`, api.ErrLabel}, {`{__name__="é"} 1`, api.ErrLabel}, {`{__name__="` + mostName + `n"} 1`, api.ErrLabel}, {`{__name__="a-b"} 1 5`, api.ErrLabel}, {"9up 1", api.ErrLabel}, {"a-b 1", api.ErrLabel}, {"é 1", api.ErrLabel}, {mostName + "n 1", api.ErrLabel}, {`up{} 1`, api.ErrLabel}, {`up{a="x",} 1`, api.ErrLabel}, {`up{,a="x"} 1`, api.ErrLabel}, {`up{a=""} 1`, api.ErrLabel}, {`up{a="` + mostValue + `v"} 1`, api.ErrLabel}, {`up{b="1",a="2"} 1`, api.ErrLabel}, {`up{a="1",a="1"} 1`, api.ErrLabel}, {`up{a="1",a="2"} 1`, api.ErrLabel}, {`up{__name__="up"} 1`, api.ErrLabel}, {`up{a="\n"} 1`, api.ErrLabel}, {"up{a=\"\n\"} 1", api.ErrLabel}, {"up\n 1", api.ErrLabel}, {"\tup 1", api.ErrLabel}, {`up{a="x"}} 1`, api.ErrLabel}, {`up{a="x" 1`, api.ErrLabel}, {`up{a='x'} 1`, api.ErrLabel}, {`up{a=x} 1`, api.ErrLabel}, {`up{a="x"}x 1`, api.ErrLabel}, {`"up" 1`, api.ErrLabel}, {`up{a="1",b="2",c="3",d="4",e="5",f="6",g="7",h="8"} 1`, api.ErrLabel}, {"#up 1", api.ErrLabel}, {"# 1", api.ErrLabel}, {`up{a="x", b="y"} 1`, api.ErrLabel}, {`up {a="x"} 1`, api.ErrNum},
		// The number.
		{"up x", api.ErrNum}, {"up +1", api.ErrNum}, {"up 01", api.ErrNum}, {"up 1.", api.ErrNum}, {"up .5", api.ErrNum}, {"up --1", api.ErrNum}, {"up 1.0000000", api.ErrNum}, {"up 10000000000000", api.ErrNum}, {"up 1e3", api.ErrNum}, {"up OVF", api.ErrNum}, {"up NaN", api.ErrNum}, {"up 1\r", api.ErrNum}, {"up 1\n", api.ErrNum}, {"up 1\t", api.ErrNum}, {"up -", api.ErrNum}, {`up "1 2" 3`, api.ErrNum}, {`up "1 2 3`, api.ErrNum}, {"up up", api.ErrNum},
		// The time.
		{"up 1 x", api.ErrTime}, {"up 1 00", api.ErrTime}, {"up 1 07", api.ErrTime}, {"up 1 01000000", api.ErrTime}, {"up 1 -0", api.ErrTime}, {"up 1 -1", api.ErrTime}, {"up 1 +0", api.ErrTime}, {"up 1 +1", api.ErrTime}, {"up 1 -", api.ErrTime}, {"up 1 1000001", api.ErrTime}, {"up 1 2000000", api.ErrTime}, {"up 1 10000000", api.ErrTime}, {"up 1 4294967296", api.ErrTime}, {"up 1 9223372036854775807", api.ErrTime}, {"up 1 9223372036854775808", api.ErrTime}, {"up 1 18446744073709551616", api.ErrTime}, {"up 1 18446744073709551621", api.ErrTime}, {"up 1 99999999999999999999999999", api.ErrTime}, {"up 1 1.0", api.ErrTime}, {"up 1 1_0", api.ErrTime}, {"up 1 0x1", api.ErrTime}, {"up 1 1e3", api.ErrTime}, {"up 1 1a", api.ErrTime}, {"up 1 a1", api.ErrTime}, {"up 1 1\r", api.ErrTime}, {"up 1 1\n", api.ErrTime}, {"up 1 \t1", api.ErrTime}, {"up 1 ٣", api.ErrTime}, {"up 1 ovf", api.ErrTime}, {`up 1 "2 3`, api.ErrTime}, {`up 1 "2 3"`, api.ErrTime}, {"up 1 2\x00", api.ErrTime},
		// Of several errors the first.
		{"9 x y z", api.ErrForm}, {"9", api.ErrForm}, {"9 x y", api.ErrLabel}, {"9 x", api.ErrLabel}, {"9 1 y", api.ErrLabel}, {`{a="1"} x y`, api.ErrLabel}, {"up x y", api.ErrNum}, {"up x -1", api.ErrNum}, {"up  1000001", api.ErrNum},
	} {
		if s, e := Line(c.s); e != c.e || !same(s, api.Scraped{}) {
			t.Errorf("P6.1: row %d: %q: %v, %v for %v", i, c.s, s, e, c.e)
		}
	}
}

func TestLineOfManyBytes(t *testing.T) {
	for n := 180; n <= 383; n++ {
		s := wide(n)
		got, e := Line(label.Print(s.Labels) + " 1")
		if n <= api.MaxLine && (e != api.OK || !same(got, s)) || n > api.MaxLine && (e != api.ErrLong || !same(got, api.Scraped{})) {
			t.Errorf("P6.1: a line of %d bytes: %v, %v", n, got, e)
		}
	}
	for _, c := range []struct {
		at   string
		bare api.Errno
	}{{"up 1", api.ErrNum}, {"up 1 1", api.ErrTime}, {"9", api.ErrForm}, {"9 1", api.ErrLabel}, {"up 1 2 3", api.ErrForm}, {"#", api.ErrForm}, {"", api.ErrForm}, {`up{a="`, api.ErrForm}, {"\xff", api.ErrForm}} {
		full := c.at + strings.Repeat("0", api.MaxLine-len(c.at))
		if s, e := Line(full); e != c.bare || !same(s, api.Scraped{}) {
			t.Errorf("P6.1: %q and noughts, %d bytes: %v", c.at, len(full), e)
		}
		for _, more := range []string{"0", " ", "\n", "é", `"`, strings.Repeat("0", 1<<20), strings.Repeat(" ", 1<<16)} {
			if s, e := Line(full + more); e != api.ErrLong || !same(s, api.Scraped{}) {
				t.Errorf("P6.1: %q, %d bytes: %v", c.at, len(full+more), e)
			}
		}
	}
	if _, e := Line(strings.Repeat("é", api.MaxLine/2)); e != api.ErrForm {
		t.Errorf("P6.1: bytes are counted, not letters: %v", e)
	}
	if _, e := Line(strings.Repeat("é", api.MaxLine/2) + "e"); e != api.ErrLong {
		t.Errorf("P6.1: bytes are counted, not letters: %v", e)
	}
}

var (
	// A quote that isn't closed reaches to the end; so does a `\` that has nothing behind it.
	formWord = "((?:[^ \"]|\"(?:[^\"\\\\]|\\\\.)*(?:\"|\\\\?$))*)"
	form     = regexp.MustCompile("(?s)^" + formWord + " " + formWord + "(?: " + formWord + ")?$")
	formSet  = regexp.MustCompile(`(?s)^([A-Za-z_][A-Za-z0-9_]{0,19})(\{.*\})?$`)
	formNum  = regexp.MustCompile(`^(ovf|-?(0|[1-9][0-9]{0,12})(\.[0-9]{1,6})?)$`)
	formTime = regexp.MustCompile(`^(0|[1-9][0-9]{0,5}|1000000)$`)
)

// modelLine: the same by forms of texts.
func modelLine(s string) (api.Scraped, api.Errno) {
	if len(s) > 300 {
		return api.Scraped{}, api.ErrLong
	}
	w := form.FindStringSubmatchIndex(s)
	if w == nil {
		return api.Scraped{}, api.ErrForm
	}
	set, number := s[w[2]:w[3]], s[w[4]:w[5]]
	l, e := label.Parse(set)
	if e != api.OK || !formSet.MatchString(set) {
		return api.Scraped{}, api.ErrLabel
	}
	if !formNum.MatchString(number) {
		return api.Scraped{}, api.ErrNum
	}
	v, _ := fix.Parse(number)
	if w[6] < 0 {
		return api.Scraped{Labels: l, V: v}, api.OK
	}
	if !formTime.MatchString(s[w[6]:w[7]]) {
		return api.Scraped{}, api.ErrTime
	}
	n, _ := strconv.Atoi(s[w[6]:w[7]])
	return api.Scraped{Labels: l, V: v, T: n, HasT: true}, api.OK
}

func TestLineByForms(t *testing.T) {
	r := rand.New(rand.NewSource(61))
	seen := map[api.Errno]int{}
	pieces := []string{"up", "a", " ", " ", " ", `"`, `\`, "{", "}", "=", ",", "0", "1", "7", ".", "-", "ovf", `{a="x"}`, `{a=" `, `",b="`, `"}`, `{a="\"`, "1000000", "1000001", "up 1 ", "\n", "#", "\xff", "é", "__name__", `{__name__="`}
	for range 300000 {
		s := ""
		for range r.Intn(9) {
			s += pieces[r.Intn(len(pieces))]
		}
		want, wantE := modelLine(s)
		if got, e := Line(s); e != wantE || !same(got, want) {
			t.Fatalf("P6.1: %q: %v, %v for %v, %v", s, got, e, want, wantE)
		}
		seen[wantE]++
	}
	for _, e := range []api.Errno{api.OK, api.ErrForm, api.ErrLabel, api.ErrNum, api.ErrTime} {
		if seen[e] < 100 {
			t.Errorf("P6.1: only %d lines came to %v", seen[e], e)
		}
	}
}

func TestLineByBentLines(t *testing.T) {
	r := rand.New(rand.NewSource(62))
	good := []string{`up{job="a"} 1 5`, `up 1`, `up{a="x y",b="\" \\"} -0.5 1000000`, `x_9{a="\\",b="\""} ovf 0`, `_ 9223372036854.775807 999999`, label.Print(wide(300).Labels) + " 1", label.Print(wide(296).Labels) + " 1 10"}
	for range 100000 {
		b := []byte(good[r.Intn(len(good))])
		for range 1 + r.Intn(3) {
			at, c := r.Intn(len(b)), []byte(" \"\\0123456789.-{},=axvf\n\x00\xff")[r.Intn(26)]
			switch r.Intn(3) {
			case 0:
				b[at] = c
			case 1:
				b = slices.Insert(b, at, c)
			case 2:
				b = slices.Delete(b, at, at+1)
			}
			if len(b) == 0 {
				b = []byte(" ")
			}
		}
		want, wantE := modelLine(string(b))
		if got, e := Line(string(b)); e != wantE || !same(got, want) {
			t.Fatalf("P6.1: %q: %v, %v for %v, %v", b, got, e, want, wantE)
		}
	}
}

// P6.2

func TestParseOfNothing(t *testing.T) {
	for _, body := range []string{"", "\n", "\n\n\n", "#", "#\n", "# \n#\n", "# TYPE a counter", "# TYPE a counter\n", "\n# HELP a b\n\n#x", strings.Repeat("\n", api.MaxBody), strings.Repeat("#", api.MaxBody)} {
		if l, bad := Parse(body); len(l) != 0 || len(bad) != 0 {
			t.Errorf("P6.2: %.30q: %v, %v", body, l, bad)
		}
	}
}

func TestParseOfLines(t *testing.T) {
	one, two := sample(metric("a"), fix.Of(1)), timed(metric("b", "c", "d"), fix.Of(2), 3)
	for i, c := range []struct {
		body string
		want []api.Scraped
		bad  []api.Bad
	}{
		{"a 1", samples(one), nil},
		{"a 1\n", samples(one), nil},
		{"\na 1", samples(one), nil},
		{"\n\na 1\n\n", samples(one), nil},
		{"a 1\nb{c=\"d\"} 2 3", samples(one, two), nil},
		{"b{c=\"d\"} 2 3\na 1\n", samples(two, one), nil},
		{"a 1\na 1\na 1", samples(one, one, one), nil},
		{"#a 1\na 1\n# a 1", samples(one), nil},
		{"##\na 1\n#\xff\"", samples(one), nil},
		{"x", nil, []api.Bad{{Line: 1, E: api.ErrForm}}},
		{"\nx\n", nil, []api.Bad{{Line: 2, E: api.ErrForm}}},
		{" ", nil, []api.Bad{{Line: 1, E: api.ErrLabel}}},
		{" \n\n ", nil, []api.Bad{{Line: 1, E: api.ErrLabel}, {Line: 3, E: api.ErrLabel}}},
		{"\r\n", nil, []api.Bad{{Line: 1, E: api.ErrForm}}},
		{"a 1\r\na 1", samples(one), []api.Bad{{Line: 1, E: api.ErrNum}}},
		{" #\na 1", samples(one), []api.Bad{{Line: 1, E: api.ErrLabel}}},
		{" # TYPE a counter\na 1", samples(one), []api.Bad{{Line: 1, E: api.ErrForm}}},
		{"x\na 1\ny z\n\n#\nb{c=\"d\"} 2 3\n{a=\"1\"} 1\na 1 1000001", samples(one, two), []api.Bad{{Line: 1, E: api.ErrForm}, {Line: 3, E: api.ErrNum}, {Line: 7, E: api.ErrLabel}, {Line: 8, E: api.ErrTime}}},
		{"x\nx\nx", nil, []api.Bad{{Line: 1, E: api.ErrForm}, {Line: 2, E: api.ErrForm}, {Line: 3, E: api.ErrForm}}},
		{"a{b=\"x\ny\"} 1\na 1", samples(one), []api.Bad{{Line: 1, E: api.ErrForm}, {Line: 2, E: api.ErrForm}}},
		{"a{b=\"\n# TYPE a counter\n\"} 1\na 1", samples(kinded(one, api.KCounter)), []api.Bad{{Line: 1, E: api.ErrForm}, {Line: 3, E: api.ErrForm}}},
		{strings.Repeat("a", api.MaxLine+1) + "\na 1", samples(one), []api.Bad{{Line: 1, E: api.ErrLong}}},
		{"a 1\n" + strings.Repeat(" ", api.MaxLine+1) + "\n" + strings.Repeat("a", api.MaxLine), samples(one), []api.Bad{{Line: 2, E: api.ErrLong}, {Line: 3, E: api.ErrForm}}},
		{"#" + strings.Repeat("a", api.MaxLine+1) + "\na 1\n# TYPE a counter" + strings.Repeat(" ", api.MaxLine+1) + "\na 1", samples(one, one), nil},
		{"a 1\n# TYPE a counter\n\n9 1\n#\na 1\n", samples(one, kinded(one, api.KCounter)), []api.Bad{{Line: 4, E: api.ErrLabel}}},
		{"# TYPE a counter\na y\na 1", samples(kinded(one, api.KCounter)), []api.Bad{{Line: 2, E: api.ErrNum}}},
	} {
		if l, bad := Parse(c.body); !sameAll(l, c.want) || !slices.Equal(bad, c.bad) {
			t.Errorf("P6.2: row %d: %.80q: %v, %v", i, c.body, l, bad)
		}
	}
}

func TestParseOfManyBytes(t *testing.T) {
	for _, line := range []string{"a 1\n", "x\n", "#\n", "\n", "a\n\n", "a 1 2\n\n\n\n\n"} {
		full := strings.Repeat(line, api.MaxBody/len(line))
		if len(full) != api.MaxBody {
			t.Fatalf("%q doesn't fill a body", line)
		}
		good, bad := strings.Count(full, "a 1"), strings.Count(full, "x\n")+strings.Count(full, "a\n")
		if l, b := Parse(full); len(l) != good || len(b) != bad {
			t.Errorf("P6.2: %d bytes of %q: %d, %d", len(full), line, len(l), len(b))
		}
		for _, more := range []string{"\n", " ", "#", "a 1", strings.Repeat("a 1\n", 1<<18)} {
			if l, b := Parse(full + more); len(l) != 0 || !slices.Equal(b, []api.Bad{{Line: 0, E: api.ErrLong}}) {
				t.Errorf("P6.2: %d bytes of %q: %d, %v", len(full+more), line, len(l), b)
			}
		}
	}
	if l, b := Parse(strings.Repeat("é", api.MaxBody/2) + "\n"); len(l) != 0 || !slices.Equal(b, []api.Bad{{Line: 0, E: api.ErrLong}}) {
		t.Errorf("P6.2: bytes are counted, not letters: %d, %v", len(l), b)
	}
}

func TestParseOfWideLines(t *testing.T) {
	body := ""
	for _, n := range []int{299, 300, 301, 302, 300} {
		body += label.Print(wide(n).Labels) + " 1\n"
	}
	l, bad := Parse(body)
	if !sameAll(l, samples(wide(299), wide(300), wide(300))) || !slices.Equal(bad, []api.Bad{{Line: 3, E: api.ErrLong}, {Line: 4, E: api.ErrLong}}) {
		t.Errorf("P6.2: lines about the greatest length: %d, %v", len(l), bad)
	}
}

func TestParseOfKinds(t *testing.T) {
	for i, c := range []struct {
		body  string
		kinds []int
	}{
		{"a 1", []int{0}},
		{"# TYPE a counter\na 1", []int{1}},
		{"# TYPE a gauge\na 1", []int{2}},
		{"# TYPE a untyped\na 1", []int{0}},
		{"a 1\n# TYPE a counter", []int{0}},
		{"a 1\n# TYPE a counter\na 2\na 3", []int{0, 1, 1}},
		{"# TYPE a counter\na 1\n# TYPE a gauge\na 1\n# TYPE a untyped\na 1\n# TYPE a counter\na 1", []int{1, 2, 0, 1}},
		{"# TYPE a counter\n# TYPE a gauge\na 1", []int{2}},
		{"# TYPE a gauge\n# TYPE a untyped\na 1", []int{0}},
		{"# TYPE a counter\n# TYPE a counter\na 1", []int{1}},
		{"# TYPE b counter\na 1\nb 1", []int{0, 1}},
		{"# TYPE a counter\n# TYPE b gauge\na 1\nb 1\na{x=\"b\"} 1\nb{x=\"a\"} 1\nc 1", []int{1, 2, 1, 2, 0}},
		{"# TYPE a counter\naa 1\nA 1\na_ 1\n_a 1", []int{0, 0, 0, 0}},
		{"# TYPE a counter\nb{a=\"a\"} 1", []int{0}},
		{"# TYPE " + mostName + " gauge\n" + mostName + " 1", []int{2}},
		{"# TYPE TYPE gauge\nTYPE 1", []int{2}},
		{"# TYPE gauge gauge\ngauge 1", []int{2}},
		{"# TYPE counter gauge\ncounter 1\ngauge 1", []int{2, 0}},
		{"# TYPE __name__ gauge\n__name__ 1\na 1", []int{2, 0}},
	} {
		got := []int{}
		l, bad := Parse(c.body)
		for _, s := range l {
			got = append(got, s.Kind)
		}
		if !slices.Equal(got, c.kinds) || len(bad) > 0 {
			t.Errorf("P6.2: row %d: %q: %v, %v", i, c.body, got, bad)
		}
	}
}

func TestParseOfOtherRemarks(t *testing.T) {
	for _, remark := range []string{"# TYPE a", "# TYPE a ", "# TYPE", "# TYPE ", "#", "# ", "# TYPE a counter ", "# TYPE a counter x", "# TYPE a counter counter", "# TYPE  a counter", "# TYPE a  counter", "#  TYPE a counter", "#TYPE a counter", "#\tTYPE a counter", "# TYPE\ta counter", "# TYPE a\tcounter", "# TYPE a counter\r", "# TYPE a counter\x00", "# type a counter", "# Type a counter", "# TYPES a counter", "# HELP a counter", "# TYPE a COUNTER", "# TYPE a Counter", "# TYPE a counters", "# TYPE a count", "# TYPE a histogram", "# TYPE a summary", "# TYPE a 1", "# TYPE a a", "# TYPE counter a", "# TYPE 9 counter", "# TYPE  counter", "# TYPE \"a\" counter", "# TYPE a{} counter", "# TYPE a{x=\"y\"} counter", "# TYPE \"a counter", "## TYPE a counter", "# # TYPE a counter", "# a counter", "# a TYPE counter", "# TYPE a counter#"} {
		for _, ahead := range []struct {
			line string
			kind int
		}{{"", api.KUntyped}, {"# TYPE a gauge", api.KGauge}, {"# TYPE a counter", api.KCounter}} {
			l, bad := Parse(ahead.line + "\n" + remark + "\na 1")
			if len(l) != 1 || l[0].Kind != ahead.kind || len(bad) > 0 {
				t.Errorf("P6.2: %q behind %q: %v, %v", remark, ahead.line, l, bad)
			}
		}
	}
	for _, name := range []string{"9", "9a", "a-b", "é", mostName + "n", "", "a\x00", "\""} {
		if l, bad := Parse("# TYPE " + name + " counter\na 1\na_ 1\n" + mostName + " 1"); len(l) != 3 || len(bad) > 0 || l[0].Kind+l[1].Kind+l[2].Kind != 0 {
			t.Errorf("P6.2: the kind of %q, which is no name: %v, %v", name, l, bad)
		}
	}
}

var formKind = regexp.MustCompile(`^# TYPE ([A-Za-z_][A-Za-z0-9_]{0,19}) (counter|gauge|untyped)$`)

// modelParse: each line by itself; its kind by a look back at the lines ahead of it.
func modelParse(body string) ([]api.Scraped, []api.Bad) {
	if len(body) > 3000 {
		return nil, []api.Bad{{E: api.ErrLong}}
	}
	l, bad := samples(), []api.Bad{}
	lines := strings.SplitAfter(body, "\n")
	for i, line := range lines {
		line = strings.TrimSuffix(line, "\n")
		if strings.HasPrefix(line, "#") || len(line) == 0 {
			continue
		}
		s, e := modelLine(line)
		if e != api.OK {
			bad = append(bad, api.Bad{Line: i + 1, E: e})
			continue
		}
		for j := i - 1; j >= 0; j-- {
			if m := formKind.FindStringSubmatch(strings.TrimSuffix(lines[j], "\n")); m != nil && slices.Contains(s.Labels, api.Pair{Name: api.NameLabel, Value: m[1]}) {
				s.Kind = slices.Index(kindWords, m[2])
				break
			}
		}
		l = append(l, s)
	}
	return l, bad
}

func TestParseByLines(t *testing.T) {
	r := rand.New(rand.NewSource(63))
	pieces := []string{"", "a 1", "b 1 2", `a{b="x y"} 3`, `b{a="\""} ovf 0`, "a", "a x", "9 1", "a 1 x", "# TYPE a counter", "# TYPE a gauge", "# TYPE a untyped", "# TYPE b counter", "# TYPE b gauge", "# TYPE b what", "# TYPE  a gauge", "#", "# HELP a b", "a 1 ", " a 1", `a{b="`, "c 7", "# TYPE c gauge ", strings.Repeat("x", 301), label.Print(wide(300).Labels) + " 1"}
	for range 30000 {
		lines := []string{}
		for range r.Intn(16) {
			lines = append(lines, pieces[r.Intn(len(pieces))])
		}
		body := strings.Join(lines, "\n")
		want, wantBad := modelParse(body)
		if got, bad := Parse(body); !sameAll(got, want) || !slices.Equal(bad, wantBad) {
			t.Fatalf("P6.2: %q: %v, %v for %v, %v", body, got, bad, want, wantBad)
		}
	}
}

func TestParseByBentBodies(t *testing.T) {
	r := rand.New(rand.NewSource(64))
	for range 30000 {
		b := []byte("a 1\n# TYPE a counter\na 2 7\n\n# TYPE b gauge\nb{c=\"d e\"} -0.5\n# HELP b\na{x=\"\\\"\"} ovf 0\n# TYPE a untyped\na 9\n")
		for range 1 + r.Intn(4) {
			at, c := r.Intn(len(b)), []byte("\n\n #abTYPE01\"\\\xff")[r.Intn(15)]
			switch r.Intn(3) {
			case 0:
				b[at] = c
			case 1:
				b = slices.Insert(b, at, c)
			case 2:
				b = slices.Delete(b, at, at+1)
			}
		}
		want, wantBad := modelParse(string(b))
		if got, bad := Parse(string(b)); !sameAll(got, want) || !slices.Equal(bad, wantBad) {
			t.Fatalf("P6.2: %q: %v, %v for %v, %v", b, got, bad, want, wantBad)
		}
	}
}

// P6.3

func TestIsOfSamples(t *testing.T) {
	for i, l := range [][]api.Pair{metric("a"), metric("_"), metric("up", "job", "a"), metric(mostName, "a", mostValue), metric("a", "b", "\x00\xff\r \"\\"), metric("a", "b", "é"), pairs("A", "1", api.NameLabel, "up", "a", "2"), pairs("Z", "1", api.NameLabel, "up"), wide(383).Labels} {
		for _, v := range []api.Num{{}, fix.Of(1), {N: -1}, mostNum, leastNum, ovf} {
			for kind := range kindWords {
				s := kinded(sample(l, v), kind)
				if !Is(s) {
					t.Errorf("P6.3: row %d: %v is one", i, s)
				}
				for _, at := range []int{0, 1, 5, api.MaxTime - 1, api.MaxTime} {
					if s := kinded(timed(l, v, at), kind); !Is(s) {
						t.Errorf("P6.3: row %d: %v is one", i, s)
					}
				}
			}
		}
	}
}

// sets: those that no sample has.
func sets() [][]api.Pair {
	return [][]api.Pair{nil, {}, pairs("a", "1"), pairs(api.NameLabel, ""), metric("a b"), metric("9"), metric("é"), metric("a\n"), metric("a-b"), metric(mostName + "n"), metric(mostValue), metric("a", "b", ""), metric("a", "9", "x"), metric("a", "", "x"), metric("a", "b c", "x"), metric("a", "b", "\n"), metric("a", "b", mostValue+"v"), metric("a", mostName+"n", "x"), metric("a", "c", "1", "b", "2"), metric("a", "b", "1", "b", "1"), metric("a", "b", "1", "b", "2"), metric("a", "A", "1"), metric("a", api.NameLabel, "a"), metric("a", api.NameLabel, "b"), metric("a", "b", "1", "c", "1", "d", "1", "e", "1", "f", "1", "g", "1", "h", "1", "i", "1"), pairs("name", "a"), pairs("__NAME__", "a"), pairs("__name", "a"), pairs("a", "1", api.NameLabel, "up"), make([]api.Pair, 1), make([]api.Pair, 100000)}
}

// bent: samples with one thing each that none has.
func bent() []api.Scraped {
	l := samples(api.Scraped{})
	for _, set := range sets() {
		l = append(l, sample(set, fix.Of(1)), timed(set, fix.Of(1), 5), kinded(sample(set, ovf), api.KGauge))
	}
	for _, v := range []api.Num{{N: math.MinInt64}, {Ovf: true, N: 1}, {Ovf: true, N: -1}, {Ovf: true, N: math.MaxInt64}, {Ovf: true, N: math.MinInt64}} {
		l = append(l, sample(metric("a"), v), timed(metric("a", "b", "c"), v, 5))
	}
	for _, at := range otherTimes {
		l = append(l, timed(metric("a"), fix.Of(1), at))
	}
	for _, at := range append([]int{1, 5, api.MaxTime}, otherTimes...) {
		l = append(l, api.Scraped{Labels: metric("a"), V: fix.Of(1), T: at})
	}
	for _, kind := range otherKinds {
		l = append(l, kinded(sample(metric("a"), fix.Of(1)), kind), kinded(timed(metric("a"), fix.Of(1), 5), kind))
	}
	return l
}

func TestIsOfWhatIsNone(t *testing.T) {
	good := sample(metric("a"), fix.Of(1))
	for i, s := range bent() {
		if Is(s) {
			t.Errorf("P6.3: row %d: %.200v is none", i, s)
		}
		for j, l := range [][]api.Scraped{{s}, {good, s}, {s, good}, {good, s, good}} {
			if text := Print(l); text != "" {
				t.Errorf("P6.3: row %d, %d: printed as %q", i, j, text)
			}
		}
	}
}

func TestPrintOfSamples(t *testing.T) {
	a, b := sample(metric("a"), fix.Of(1)), timed(metric("b", "c", "d e"), api.Num{N: -500000}, 7)
	other := sample(metric("a", "x", "y"), ovf)
	for i, c := range []struct {
		l    []api.Scraped
		want string
	}{
		{nil, ""},
		{samples(), ""},
		{samples(a), "a 1\n"},
		{samples(b), "b{c=\"d e\"} -0.5 7\n"},
		{samples(a, b), "a 1\nb{c=\"d e\"} -0.5 7\n"},
		{samples(b, a), "b{c=\"d e\"} -0.5 7\na 1\n"},
		{samples(a, a), "a 1\na 1\n"},
		{samples(timed(metric("a"), fix.Of(0), 0)), "a 0 0\n"},
		{samples(timed(metric("a"), ovf, api.MaxTime)), "a ovf 1000000\n"},
		{samples(sample(metric("a"), mostNum), sample(metric("a"), leastNum)), "a 9223372036854.775807\na -9223372036854.775807\n"},
		{samples(sample(metric("a", "b", `"\`), fix.Of(1))), "a{b=\"\\\"\\\\\"} 1\n"},
		{samples(sample(pairs("A", "1", api.NameLabel, "up"), fix.Of(1))), "up{A=\"1\"} 1\n"},
		{samples(kinded(a, 1)), "# TYPE a counter\na 1\n"},
		{samples(kinded(a, 2)), "# TYPE a gauge\na 1\n"},
		{samples(a, kinded(a, 1)), "a 1\n# TYPE a counter\na 1\n"},
		{samples(kinded(a, 1), kinded(a, 1)), "# TYPE a counter\na 1\na 1\n"},
		{samples(kinded(a, 1), a), "# TYPE a counter\na 1\n# TYPE a untyped\na 1\n"},
		{samples(kinded(a, 2), a, a), "# TYPE a gauge\na 1\n# TYPE a untyped\na 1\na 1\n"},
		{samples(kinded(a, 1), kinded(a, 2), kinded(a, 1)), "# TYPE a counter\na 1\n# TYPE a gauge\na 1\n# TYPE a counter\na 1\n"},
		{samples(kinded(a, 1), kinded(b, 2), kinded(a, 1), kinded(b, 2)), "# TYPE a counter\na 1\n# TYPE b gauge\nb{c=\"d e\"} -0.5 7\na 1\nb{c=\"d e\"} -0.5 7\n"},
		{samples(kinded(a, 1), b, kinded(a, 1)), "# TYPE a counter\na 1\nb{c=\"d e\"} -0.5 7\na 1\n"},
		{samples(kinded(a, 1), kinded(other, 1), other), "# TYPE a counter\na 1\na{x=\"y\"} ovf\n# TYPE a untyped\na{x=\"y\"} ovf\n"},
		{samples(kinded(a, 1), kinded(other, 2)), "# TYPE a counter\na 1\n# TYPE a gauge\na{x=\"y\"} ovf\n"},
		{samples(kinded(sample(metric(mostName), fix.Of(2)), 1)), "# TYPE " + mostName + " counter\n" + mostName + " 2\n"},
	} {
		if got := Print(c.l); got != c.want {
			t.Errorf("P6.3: row %d: %q for %q", i, got, c.want)
		}
	}
}

func TestPrintOfWideLines(t *testing.T) {
	short := sample(metric("a"), fix.Of(1))
	for n := 180; n <= 383; n++ {
		want := label.Print(wide(n).Labels) + " 1\n"
		if n > api.MaxLine {
			want = ""
		}
		if got := Print(samples(wide(n))); got != want {
			t.Errorf("P6.3: a line of %d bytes: %q", n, got)
		}
	}
	for i, c := range []struct {
		s    api.Scraped
		told bool
	}{
		{kinded(wide(300), api.KCounter), true},
		{kinded(wide(301), api.KCounter), false},
		{timed(wide(298).Labels, fix.Of(1), 0), true},
		{timed(wide(299).Labels, fix.Of(1), 0), false},
		{timed(wide(292).Labels, fix.Of(1), api.MaxTime), true},
		{timed(wide(293).Labels, fix.Of(1), api.MaxTime), false},
		{sample(wide(298).Labels, ovf), true},
		{sample(wide(299).Labels, ovf), false},
		{sample(wide(280).Labels, leastNum), true},
		{sample(wide(281).Labels, leastNum), false},
		{timed(wide(272).Labels, leastNum, api.MaxTime), true},
		{timed(wide(273).Labels, leastNum, api.MaxTime), false},
	} {
		for j, l := range [][]api.Scraped{{c.s}, {short, c.s}, {c.s, short}, {short, c.s, short}} {
			if !Is(c.s) || (Print(l) != "") != c.told {
				t.Errorf("P6.3: row %d, %d: %q", i, j, Print(l))
			}
		}
	}
	// Signs that are escaped count twice in a line.
	quotes := strings.Repeat(`"\`, 15)
	for i, c := range []struct {
		s    api.Scraped
		told bool
	}{
		{sample(metric("up", "a", quotes, "b", quotes, "c", quotes, "d", quotes, "e", mostValue), fix.Of(1)), true},
		{sample(metric("upp", "a", quotes, "b", quotes, "c", quotes, "d", quotes, "e", mostValue), fix.Of(1)), false},
		{sample(metric("up", "a", quotes, "b", quotes, "c", quotes, "d", quotes, "e", quotes[:15]), fix.Of(1)), true},
		{sample(metric("up", "a", quotes, "b", quotes, "c", quotes, "d", quotes, "e", quotes[:16]), fix.Of(1)), false},
	} {
		if text := Print(samples(c.s)); !Is(c.s) || c.told != (len(text) == api.MaxLine+1) || c.told != (text != "") {
			t.Errorf("P6.3: quotes, row %d: %q", i, text)
		}
	}
}

func randomSample(r *rand.Rand) api.Scraped {
	names := []string{"a", "b", "up", "_x9"}
	values := []string{"x", " ", "x y", `"`, `\`, `\" \\`, "}", "#", "\xff\x00", "é ", mostValue, strings.Repeat(`"`, api.MaxValue)}
	nums := []api.Num{{}, fix.Of(1), {N: -500000}, {N: 1}, mostNum, leastNum, ovf, {N: r.Int63()}, {N: -r.Int63()}}
	s := api.Scraped{Labels: metric(names[r.Intn(len(names))]), V: nums[r.Intn(len(nums))], Kind: r.Intn(3)}
	for _, name := range []string{"a", "b", "job"} {
		if r.Intn(3) == 0 {
			s.Labels = append(s.Labels, api.Pair{Name: name, Value: values[r.Intn(len(values))]})
		}
	}
	if r.Intn(2) == 0 {
		s.HasT, s.T = true, []int{0, 1, 10, 999999, api.MaxTime, r.Intn(api.MaxTime)}[r.Intn(6)]
	}
	return s
}

func randomSamples(r *rand.Rand, most int) []api.Scraped {
	l := samples()
	for range r.Intn(most + 1) {
		l = append(l, randomSample(r))
	}
	return l
}

// modelPrint: each sample's kind is held against that of the one of its metric ahead of it.
func modelPrint(l []api.Scraped) string {
	text := ""
	for i, s := range l {
		name, kind := label.Get(s.Labels, api.NameLabel), 0
		for _, ahead := range l[:i] {
			if label.Get(ahead.Labels, api.NameLabel) == name {
				kind = ahead.Kind
			}
		}
		if kind != s.Kind {
			text += "# TYPE " + name + " " + kindWords[s.Kind] + "\n"
		}
		text += label.Print(s.Labels) + " " + fix.Print(s.V)
		if s.HasT {
			text += " " + strconv.Itoa(s.T)
		}
		text += "\n"
	}
	return text
}

func TestPrintBySamples(t *testing.T) {
	r := rand.New(rand.NewSource(65))
	for range 20000 {
		l := randomSamples(r, 12)
		if got, want := Print(l), modelPrint(l); got != want {
			t.Fatalf("P6.3: %v: %q for %q", l, got, want)
		}
	}
}

// P6.4

func TestPrintedIsRead(t *testing.T) {
	r := rand.New(rand.NewSource(66))
	for range 20000 {
		l := randomSamples(r, 14)
		text := Print(l)
		if len(text) > api.MaxBody || text == "" && len(l) > 0 {
			t.Fatalf("P6.4: %d bytes of %d samples", len(text), len(l))
		}
		got, bad := Parse(text)
		if !sameAll(got, l) || len(bad) > 0 {
			t.Fatalf("P6.4: %q: %v, %v for %v", text, got, bad, l)
		}
		if again := Print(got); again != text {
			t.Fatalf("P6.4: %q printed again as %q", text, again)
		}
	}
}

func TestReadIsPrinted(t *testing.T) {
	r := rand.New(rand.NewSource(67))
	pieces := []string{"a 1", "a 01", "a 1.50 2", "b -0", `a{b="x y"} 3 9`, "x", "#", "", "# TYPE a gauge", "# TYPE a counter", "# TYPE b gauge", "# TYPE a untyped", "b ovf 0", "b 9999999999999"}
	for range 20000 {
		body := ""
		for range r.Intn(20) {
			body += pieces[r.Intn(len(pieces))] + "\n"
		}
		l, _ := Parse(body)
		for _, s := range l {
			if !Is(s) {
				t.Fatalf("P6.4: %q: %v was read, but is none", body, s)
			}
		}
		if got, bad := Parse(Print(l)); !sameAll(got, l) || len(bad) > 0 {
			t.Fatalf("P6.4: %q: %v, %v for %v", body, got, bad, l)
		}
	}
}

func TestLineOfPrinted(t *testing.T) {
	r := rand.New(rand.NewSource(68))
	for range 20000 {
		s := randomSample(r)
		s.Kind = api.KUntyped
		text := Print(samples(s))
		if got, e := Line(strings.TrimSuffix(text, "\n")); e != api.OK || !same(got, s) {
			t.Fatalf("P6.4: %q: %v, %v for %v", text, got, e, s)
		}
	}
	for n := 180; n <= api.MaxLine; n++ {
		if l, bad := Parse(Print(samples(wide(n), kinded(wide(n), 2)))); !sameAll(l, samples(wide(n), kinded(wide(n), 2))) || len(bad) > 0 {
			t.Errorf("P6.4: lines of %d bytes: %v", n, bad)
		}
	}
}

func TestPrintOfMoreThanABody(t *testing.T) {
	one := sample(metric("a"), fix.Of(1))
	for _, n := range []int{750, 751, 100000} {
		l := slices.Repeat(samples(one), n)
		text := Print(l)
		if text != strings.Repeat("a 1\n", n) {
			t.Fatalf("P6.3: %d samples: %d bytes", n, len(text))
		}
		got, bad := Parse(text)
		if n == 750 && (!sameAll(got, l) || len(bad) > 0) || n > 750 && (len(got) > 0 || len(bad) != 1) {
			t.Errorf("P6.2: %d bytes: %d samples, %v", len(text), len(got), bad)
		}
	}
}

// What is handed in stays as it was; what is answered is new.

func TestHandedInStays(t *testing.T) {
	room := append(slices.Repeat(pairs("spare", "room"), 2), metric("up", "a", "x", "b", "y")...)
	room = append(room, pairs("more", "room")...)
	handed := append(samples(timed(room[2:5], fix.Of(1), 5), kinded(sample(room[2:4], ovf), 1)), sample(room[:1], fix.Of(3)), wide(383))
	roomWas, handedWas := slices.Clone(room), slices.Clone(handed)
	for n := range len(handed) + 1 {
		Print(handed[:n])
		for _, s := range handed[:n] {
			Is(s)
		}
		if !slices.Equal(room, roomWas) || !sameAll(handed, handedWas) {
			t.Fatalf("P6.3: what was handed in is another thing, or what is behind it: %v, %v", room, handed)
		}
	}
}

func TestAnswersAreNew(t *testing.T) {
	body := "a{b=\"c\"} 1\na{b=\"c\"} 1\nx\nx\n"
	want, wantBad := Parse(body)
	for range 3 {
		l, bad := Parse(body)
		for i := range l {
			full := l[i].Labels[:cap(l[i].Labels)]
			for j := range full {
				full[j] = api.Pair{Name: "z", Value: strconv.Itoa(i)}
			}
			for j := range l {
				if j > i && !slices.Equal(l[j].Labels, metric("a", "b", "c")) {
					t.Fatalf("P6.2: the sets of samples %d and %d share memory", i, j)
				}
			}
		}
		l, bad = l[:cap(l)], bad[:cap(bad)]
		clear(l)
		clear(bad)
		if got, gotBad := Parse(body); !sameAll(got, want) || !slices.Equal(gotBad, wantBad) || !slices.Equal(got[0].Labels, metric("a", "b", "c")) {
			t.Fatalf("P6.2: another answer: %v, %v", got, gotBad)
		}
	}
	for range 3 {
		s, _ := Line(`a{b="c"} 1`)
		s.Labels = append(s.Labels[:0], pairs("z", "z", "z", "z")...)
		if again, e := Line(`a{b="c"} 1`); e != api.OK || !slices.Equal(again.Labels, metric("a", "b", "c")) {
			t.Fatalf("P6.1: another answer: %v, %v", again, e)
		}
	}
	for range 3 {
		l, bad := Parse(strings.Repeat("x", api.MaxBody+1))
		if len(l) != 0 || !slices.Equal(bad, []api.Bad{{E: api.ErrLong}}) {
			t.Fatalf("P6.2: another answer: %v, %v", l, bad)
		}
		clear(bad[:cap(bad)])
	}
}

// FuzzBody: nothing panics, and what comes of it is as the model tells.
func FuzzBody(f *testing.F) {
	f.Add("a 1\n# TYPE a counter\na{b=\"c d\"} -0.5 7\nx\n")
	f.Add("")
	f.Fuzz(func(t *testing.T, body string) {
		want, wantBad := modelParse(body)
		got, bad := Parse(body)
		if !sameAll(got, want) || !slices.Equal(bad, wantBad) {
			t.Fatalf("P6.2: %q: %v, %v for %v, %v", body, got, bad, want, wantBad)
		}
		if again, bad := Parse(Print(got)); len(Print(got)) <= api.MaxBody && (!sameAll(again, got) || len(bad) > 0) {
			t.Fatalf("P6.4: %q: %v, %v for %v", body, again, bad, got)
		}
	})
}
