package rules

import (
	"math/rand"
	"slices"
	"strconv"
	"strings"
	"testing"

	"spillway/api"
	"spillway/expr"
)

const one = "group g every 1\n"

// isParsed: Parse tells it; beside an error nothing else; and the model agrees.
func isParsed(t *testing.T, s string, at int, why api.Errno) api.Config {
	t.Helper()
	got := parse(s)
	if got.at != at || got.why != why {
		t.Fatalf("P10.1: %.3000q: %v at %d, for %v at %d", s, got.why, got.at, why, at)
	}
	if why != api.OK && len(got.c.Relabels)+len(got.c.Groups) > 0 {
		t.Fatalf("P10.1: %.3000q: an error, and %s", s, told(got.c))
	}
	if want := modelled(s); want.at != at || want.why != why || !isEqual(want.c, got.c) {
		t.Fatalf("P10.1: %.3000q: %s, the model %s", s, told(got), told(want))
	}
	if got.why == api.OK && !Is(got.c) {
		t.Fatalf("P10.2: %.3000q: %s isn't", s, told(got.c))
	}
	return got.c
}

func isFine(t *testing.T, s string) api.Config {
	t.Helper()
	return isParsed(t, s, 0, api.OK)
}

// isRefused: a line by itself, and, with its place, behind others; its last line feed counts for nothing.
func isRefused(t *testing.T, ahead, line string, at int, why api.Errno) {
	t.Helper()
	for _, more := range []string{"", "#\n", "\n\n", "# a = b\n\n#\n"} {
		for _, end := range []string{"", "\n", "\nwhat\n", "\n" + one} {
			isParsed(t, more+ahead+line+end, len(more)+len(ahead)+at, why)
		}
	}
}

// P10.1: files and lines

func TestLongFiles(t *testing.T) {
	isFine(t, strings.Repeat("#", api.MaxFile))
	isFine(t, strings.Repeat("\n", api.MaxFile))
	isFine(t, one+strings.Repeat("#", api.MaxFile-len(one)))
	for _, n := range []int{1, 2, 1000, 1 << 20} {
		isParsed(t, strings.Repeat("#", api.MaxFile+n), 0, api.ErrLong)
		isParsed(t, strings.Repeat("\n", api.MaxFile+n), 0, api.ErrLong)
		isParsed(t, strings.Repeat("w", api.MaxFile+n), 0, api.ErrLong)
		isParsed(t, "#\nwhat\n"+strings.Repeat("#", api.MaxFile+n-7), 0, api.ErrLong)
	}
	isParsed(t, "#\nwhat\n"+strings.Repeat("#", api.MaxFile-7), 2, api.ErrForm)
	isParsed(t, strings.Repeat("#\n", 1498)+"what", 2996, api.ErrForm)
	isParsed(t, strings.Repeat("#\n", 1498)+"wha\n", 2996, api.ErrForm)
}

func TestEmptyFilesAndLines(t *testing.T) {
	for _, s := range []string{"", "\n", "\n\n\n", "#", "#\n", "##", "# a\n#b\n", "#\n\n#", "\n#", "#group g every 1", "# keep\r", "#\x00\xff\t", "#" + one[:15] + "\n#record r = $"} {
		c := isFine(t, s)
		if len(c.Relabels)+len(c.Groups) != 0 || Print(c) != "" {
			t.Errorf("P10.1: %q: %s", s, told(c))
		}
	}
	for _, line := range []string{" ", "\t", "  ", " #", "\t#", " # a", "\r", "\r#", "\x00", "\xff", "what", "w", "=", " = ", "{}", "1", "a > 1", `"#"`, "\v", "é", "\ufeff#", "//", ";"} {
		isRefused(t, "", line, 0, api.ErrForm)
		isRefused(t, one, line, 0, api.ErrForm)
	}
}

func TestLastLines(t *testing.T) {
	for _, s := range []string{`keep a = "b"`, "group h every 2", one + "record r = 1", one + "record r = a > 1", one + `record r{a="b"} = sum(up)`} {
		c, d, e := isFine(t, s), isFine(t, s+"\n"), isFine(t, s+"\n\n")
		if !isEqual(c, d) || !isEqual(c, e) || len(c.Relabels)+len(c.Groups) != 1 {
			t.Errorf("P10.1: %q: %s, %s, %s", s, told(c), told(d), told(e))
		}
	}
	for _, s := range []string{`keep a = "b"`, "group h every 2"} {
		for _, end := range []string{" ", "\r", "\t"} {
			isRefused(t, "", s+end, 0, api.ErrForm)
		}
	}
	isFine(t, one+"record r = 1 \n")
	isFine(t, one+"record r = 1\t\n")
	isRefused(t, one, "record r = 1\r", len("record r = 1"), api.ErrSign)
}

// P10.1: relabel rules

func TestRelabels(t *testing.T) {
	most := strings.Repeat("v", api.MaxValue)
	longest := strings.Repeat("n", api.MaxName)
	for _, text := range []string{"", "a", "a = b", " ", "*", "$", "#", `"`, `\`, `\"`, `"\`, `\\`, `""`, "\t", "\r", "\x00", "\xff", "é", "a,b", "{", "}", most, strings.Repeat(`"`, api.MaxValue), strings.Repeat(`\`, api.MaxValue), strings.Repeat("\xff", api.MaxValue)} {
		for _, name := range []string{"a", "_", "Z9", "keep", "labeldrop", "group", "t", "e1", api.NameLabel, longest} {
			for _, sign := range signs {
				from := api.Matcher{Name: name, Kind: kindOfSign[sign], Text: text}
				for _, want := range []api.Relabel{
					{Action: api.AKeep, From: from}, {Action: api.ADrop, From: from}, {Action: api.ALabelDrop, From: api.Matcher{Text: text}},
					{Action: api.AReplace, From: from, Target: "to", Text: "z$"}, {Action: api.AReplace, From: from, Target: name, Text: text}, {Action: api.AReplace, From: api.Matcher{Name: "a", Kind: from.Kind}, Target: longest, Text: text},
				} {
					c := isFine(t, relabelText(want))
					if len(c.Relabels) != 1 || c.Relabels[0] != want || len(c.Groups) != 0 {
						t.Fatalf("P10.1: %s: %s", relabelText(want), told(c))
					}
				}
			}
		}
	}
}

// TestRelabelsNotPrintedSo: a blank more or less, a tab for one, other words, signs, texts, and what lies behind.
func TestRelabelsNotPrintedSo(t *testing.T) {
	for _, line := range []string{
		"keep", "keep ", "keep a", "keep a ", "keep a =", "keep a = ", `keep a = "`, `keep a = "b`, `keep a = b"`, `keep a = b`, `keep a = 'b'`, `keep "a" = "b"`, `keep a "b"`, `keep = "b"`, `keep a="b"`, `keep a ="b"`, `keep a= "b"`, `keep  a = "b"`, `keep a  = "b"`, `keep a =  "b"`, ` keep a = "b"`, `keep a = "b" `, "keep\ta = \"b\"", "keep a\t= \"b\"", "keep a =\t\"b\"", "keep a = \"b\"\t", "keep a = \"b\"\r",
		`keep a == "b"`, `keep a > "b"`, `keep a ! "b"`, `keep a ^ "b"`, `keep a * "b"`, `keep a ~= "b"`, `keep a =! "b"`, `keep a = "b" c`, `keep a = "b" "c"`, `keep a = "b" c "d"`, `keep a = "b", c = "d"`, `keep a = "b"#`, `keep a = "b" #`, `keep a = "b"keep a = "b"`,
		`Keep a = "b"`, `KEEP a = "b"`, `keeps a = "b"`, `kee a = "b"`, `a = "b"`, `"keep" a = "b"`, `keepa = "b"`, `hold a = "b"`, `keep 9 = "b"`, `keep 9a = "b"`, `keep a-b = "b"`, `keep é = "b"`, `keep {a} = "b"`, `keep a{} = "b"`, `keep ` + strings.Repeat("n", 21) + ` = "b"`, `keep a = "` + strings.Repeat("v", 31) + `"`, `keep a = "` + strings.Repeat(`\"`, 31) + `"`, `keep a = "\n"`, `keep a = "\b"`, `keep a = "b\"`, `keep a = "b\\""`, `keep a = 1`, `keep a = 5t`,
		"drop", `drop a="b"`, `drop a = "b" c "d"`, `drop "a"`, `drop a == "b"`, `drop  a = "b"`, `drop a = "b" `,
		"replace", `replace a = "b"`, `replace a = "b" to`, `replace a = "b" to `, `replace a = "b" "c"`, `replace a = "b" to "c" `, `replace a = "b" to "c" d`, `replace a = "b" to "c" "d"`, `replace a = "b" to "c" to "c"`, `replace a = "b"  to "c"`, `replace a = "b" to  "c"`, `replace a = "b" to"c"`, `replace a = "b"to "c"`, `replace a = "b" 9 "c"`, `replace a = "b" "to" "c"`, `replace a = "b" to = "c"`, `replace a = "b" to c`, `replace a = "b" to "` + strings.Repeat("v", 31) + `"`, `replace a = "b" ` + strings.Repeat("n", 21) + ` "c"`, `replace "b" to "c"`, `replace a == "b" to "c"`, `replace a = "b" to "c"` + strings.Repeat(" ", 600),
		"labeldrop", "labeldrop ", "labeldrop x", `labeldrop"x"`, `labeldrop  "x"`, `labeldrop "x" `, `labeldrop "x" "y"`, `labeldrop = "x"`, `labeldrop a = "x"`, `labeldrop "x`, `labeldrop "` + strings.Repeat("v", 31) + `"`, `labeldrops "x"`, `label "x"`, `labelkeep "x"`, `labeldrop ""x`, `labeldrop "\x"`, "labeldrop \"x\"\r", "labeldrop\t\"x\"",
	} {
		isRefused(t, "", line, 0, api.ErrForm)
		isRefused(t, one, line, 0, api.ErrForm)
		isRefused(t, strings.Repeat("keep a = \"b\"\n", api.MaxRelabels), line, 0, api.ErrForm)
	}
}

// lineOfEachRelabel: one of each action.
var lineOfEachRelabel = []string{`keep a = "b"`, `drop a != "b"`, `replace a ^= "b" to "c"`, `labeldrop "x*"`}

func TestHowManyRelabels(t *testing.T) {
	for _, line := range lineOfEachRelabel {
		full := strings.Repeat(line+"\n", api.MaxRelabels)
		c := isFine(t, full)
		if len(c.Relabels) != api.MaxRelabels {
			t.Errorf("P10.1: %d relabel rules", len(c.Relabels))
		}
		isFine(t, "\n#\n"+full+"#\n"+one)
		for _, more := range lineOfEachRelabel {
			isRefused(t, full, more, 0, api.ErrMany)
			isRefused(t, full+"#\n\n", more, 0, api.ErrMany)
			isRefused(t, full, more+" ", 0, api.ErrForm)
			isRefused(t, full+one, more, 0, api.ErrForm)
		}
	}
	c := isFine(t, strings.Join(lineOfEachRelabel, "\n"))
	for i, r := range c.Relabels {
		if relabelText(r) != lineOfEachRelabel[i] {
			t.Errorf("P10.2: row %d: %s", i, told(r))
		}
	}
}

func TestRelabelsBehindGroups(t *testing.T) {
	for _, line := range lineOfEachRelabel {
		for _, ahead := range []string{one, one + "#\n\n", one + "record r = 1\n", line + "\n" + one, one + "group h every 1\ngroup i every 1\n"} {
			isRefused(t, ahead, line, 0, api.ErrForm)
		}
	}
}

// P10.1: groups

func TestGroups(t *testing.T) {
	for _, name := range []string{"a", "_", "Z9", "every", "group", "record", "keep", api.NameLabel, strings.Repeat("n", api.MaxName)} {
		for every := 1; every <= api.MaxEvery; every++ {
			c := isFine(t, "group "+name+" every "+strconv.Itoa(every))
			if len(c.Groups) != 1 || c.Groups[0].Name != name || c.Groups[0].Every != every || len(c.Groups[0].Rules)+len(c.Relabels) != 0 {
				t.Errorf("P10.1: %s every %d: %s", name, every, told(c))
			}
		}
	}
}

func TestLinesOfNoGroup(t *testing.T) {
	lines := []string{
		"group", "group ", "group  ", "group g", "group g ", "group g every", "group g every ", "group every 1", "group g 1", "group g ever 1", "group g Every 1", "Group g every 1", "GROUP g every 1", "groups g every 1", "g every 1", "group: g every 1",
		"group  g every 1", "group g  every 1", "group g every  1", " group g every 1", "group g every 1 ", "group\tg every 1", "group g\tevery 1", "group g every\t1", "group g every 1\t", "group g every 1\r", "groupg every 1", "group gevery 1", "group g every1", "group g h every 1", "group g every 1 every 1", "group g every every 1", "group g, every 1", "group g every 1,", "group \"g\" every 1", "group {g} every 1", "group g every \"1\"", "group g every 1 # one", "group g every 1#", "group g every 1;", "group g every 1 record r = 1", "group g = every 1", "group g every = 1",
	}
	for _, n := range []string{"0", "00", "01", "001", "020", "21", "22", "99", "100", "120", "201", "+1", "-1", "--1", "1.0", "1.", ".1", "1e0", "0x1", "1_0", "1 0", "1t", "a", "١", "18446744073709551617", "9223372036854775808", strings.Repeat("1", 300), "1" + strings.Repeat("0", 300)} {
		lines = append(lines, "group g every "+n)
	}
	for _, name := range []string{"9", "9a", "a-b", "a.b", "é", "\xff", "a\x00", "", "*", "a:b", `"`, `a{b="c"}`, "{}", strings.Repeat("n", api.MaxName+1), strings.Repeat("n", 1000)} {
		lines = append(lines, "group "+name+" every 1")
	}
	for _, line := range lines {
		isRefused(t, "", line, 0, api.ErrForm)
		isRefused(t, one, line, 0, api.ErrForm)
		isRefused(t, one+"group h every 1\ngroup i every 1\n", line, 0, api.ErrForm)
	}
}

func TestHowManyGroups(t *testing.T) {
	full := one + "group h every 20\ngroup i every 3\n"
	c := isFine(t, full)
	if len(c.Groups) != api.MaxGroups || c.Groups[0].Name != "g" || c.Groups[1].Name != "h" || c.Groups[2].Name != "i" {
		t.Errorf("P10.1: %s", told(c))
	}
	for _, more := range []string{"group j every 1", "group g every 1", "group h every 1", "group i every 3"} {
		isRefused(t, full, more, 0, api.ErrMany)
		isRefused(t, full+"record r = 1\n#\n", more, 0, api.ErrMany)
	}
}

func TestGroupsTwice(t *testing.T) {
	isRefused(t, one, one[:15], 0, api.ErrTwice)
	isRefused(t, one, "group g every 2", 0, api.ErrTwice)
	isRefused(t, one+"record r = 1\n", "group g every 2", 0, api.ErrTwice)
	isRefused(t, one+"group h every 1\n", "group g every 1", 0, api.ErrTwice)
	isRefused(t, one+"group h every 1\n", "group h every 1", 0, api.ErrTwice)
	isRefused(t, one, "group g every 21", 0, api.ErrForm)
	isFine(t, one+"group G every 1\ngroup gg every 1")
	isFine(t, "group n1 every 1\ngroup n2 every 1\ngroup n every 1")
}

// P10.1: records

func TestRecords(t *testing.T) {
	seven := `{a="1",b="2",c="3",d="4",e="5",f="6",g="7"}`
	for set, static := range map[string][]api.Pair{
		"r": nil, "_": nil, "record": nil, "group": nil, "Z9": nil, strings.Repeat("n", api.MaxName): nil, `r{a="b"}`: {{Name: "a", Value: "b"}}, `r{A="b",_="c",a="d"}`: {{Name: "A", Value: "b"}, {Name: "_", Value: "c"}, {Name: "a", Value: "d"}},
		`r{a=" = "}`: {{Name: "a", Value: " = "}}, `r{a="\" = \\",b=" = "}`: {{Name: "a", Value: `" = \`}, {Name: "b", Value: " = "}}, `r{a="} = 1"}`: {{Name: "a", Value: "} = 1"}}, `r{a="\\"}`: {{Name: "a", Value: `\`}}, `r{a="\""}`: {{Name: "a", Value: `"`}}, `r{a="#"}`: {{Name: "a", Value: "#"}}, "r{a=\"\t\x00\xff\r\"}": {{Name: "a", Value: "\t\x00\xff\r"}},
		`r{a="` + strings.Repeat(`\"`, 30) + `"}`: {{Name: "a", Value: strings.Repeat(`"`, 30)}}, `r{__name="a",__name___="b"}`: {{Name: "__name", Value: "a"}, {Name: "__name___", Value: "b"}},
		"r" + seven: {{Name: "a", Value: "1"}, {Name: "b", Value: "2"}, {Name: "c", Value: "3"}, {Name: "d", Value: "4"}, {Name: "e", Value: "5"}, {Name: "f", Value: "6"}, {Name: "g", Value: "7"}},
	} {
		for _, text := range []string{"1", "a", "sum by (x) (rate(y[5t]))", `a{b=" = "}`, " a", "a ", "\ta\t", "  a  +  1  ", `{a="x = y"} == 2`, "a == b", "a >= 1", "record", "r", "-1"} {
			c := isFine(t, one+"record "+set+" = "+text)
			name, _, _ := strings.Cut(set, "{")
			e, _, _ := expr.Parse(text)
			want := api.Config{Groups: []api.Group{{Name: "g", Every: 1, Rules: []api.Rule{{Record: name, Static: static, E: e}}}}}
			if !isEqual(c, want) {
				t.Errorf("P10.2: %s = %s: %s", set, text, told(c))
			}
		}
	}
}

// linesOfNoRecord: what has no SET, or one that is none, or no ` = `.
func linesOfNoRecord() []string {
	lines := []string{
		"record", "record ", "record  ", "record r", "record r ", "record r =", "record r=", "record r= 1", "record r =1", "record r=1", "record r 1", "record r  = 1", "record  r = 1", "record r == 1", "record r != 1", "record r\t= 1", "record r =\t1", "record\tr = 1", " record r = 1", "Record r = 1", "RECORD r = 1", "records r = 1", "recordr = 1", "r = 1", "record = 1", "record  = 1", "record = = 1", "record r, = 1", "record r:1", "record r := 1", "record r s = 1", "record r s", "record \"r\" = 1", "record 1 = 1", "record r(1) = 1", "record r[5t] = 1", "record -r = 1", "record 'r' = 1", "record r' = 1", "record r\\ = 1", "record r# = 1", "record # = 1",
		`record r{a="b = 1`, `record r{a="b" = 1`, `record r{a="b"} =1`, `record r{a="b"}= 1`, `record r{a="b"}  = 1`, `record r {a="b"} = 1`, `record r{a="b" } = 1`, `record r{ a="b"} = 1`, `record r{a ="b"} = 1`, `record r{a= "b"} = 1`, `record r{a = "b"} = 1`, `record r{a="b", c="d"} = 1`, `record r{a="b",} = 1`, `record r{,a="b"} = 1`, `record r{a="b"}} = 1`, `record r{{a="b"} = 1`, `record r{a=b} = 1`, `record r{a='b'} = 1`, `record r{a!="b"} = 1`, `record r{a="b"}x = 1`, `record r{a="b"}{c="d"} = 1`, `record r{a="b"};c="d" = 1`, `record r} = 1`, `record r{ = 1`, `record r{} = 1`, `record r{a} = 1`, `record r{a=} = 1`, `record r{="b"} = 1`,
		`record r{a=""} = 1`, `record r{a="b",a="b"} = 1`, `record r{a="b",a="c"} = 1`, `record r{b="1",a="1"} = 1`, `record r{a="1",B="1"} = 1`, `record r{a="\b"} = 1`, `record r{a="b\"} = 1`, `record r{a="b\\""} = 1`, `record r{9="b"} = 1`, `record r{a-b="c"} = 1`, `record r{"a"="b"} = 1`, `record r{a="` + strings.Repeat("v", 31) + `"} = 1`, `record r{` + strings.Repeat("n", 21) + `="v"} = 1`,
		`record r{a="1",b="2",c="3",d="4",e="5",f="6",g="7",h="8"} = 1`, `record r{a="1",b="2",c="3",d="4",e="5",f="6",g="7",h="8",i="9"} = 1`,
		// no NameLabel
		`record {} = 1`, `record {a="b"} = 1`, `record {a="1",b="2",c="3",d="4",e="5",f="6",g="7",h="8"} = 1`, `record {a=" = "} = 1`,
		// one whose value is no name
		`record {__name__="9"} = 1`, `record {__name__="a b"} = 1`, `record {__name__="a-b",a="b"} = 1`, `record {__name__=" = "} = 1`, `record {__name__="` + strings.Repeat("n", 21) + `"} = 1`, `record {__name__="é"} = 1`,
		// one that is, or another, where label doesn't print it
		`record {__name__="r"} = 1`, `record {__name__="r",a="b"} = 1`, `record r{__name__="r"} = 1`, `record r{__name__="9"} = 1`, `record r{__name__="s",a="b"} = 1`,
	}
	for _, name := range []string{"9", "9r", "r-s", "r.s", "r:s", "é", "\xff", "r\x00", strings.Repeat("n", 21), strings.Repeat("n", 1000), "$", "*"} {
		lines = append(lines, "record "+name+" = 1", "record "+name+`{a="b"} = 1`)
	}
	return lines
}

func TestLinesOfNoRecord(t *testing.T) {
	for _, line := range linesOfNoRecord() {
		isRefused(t, "", line, 0, api.ErrForm)
		isRefused(t, one, line, 0, api.ErrForm)
		isRefused(t, one+"record r = 1\n", line, 0, api.ErrForm)
		isRefused(t, one+strings.Repeat("record r = 1\n", api.MaxRules), line, 0, api.ErrForm)
	}
}

func TestRecordsAheadOfGroups(t *testing.T) {
	for _, line := range []string{"record r = 1", `record r{a="b"} = sum(up)`, "record r = ", "record r = $", "record r = 1 > 2", "record r = " + strings.Repeat(" ", 601)} {
		isRefused(t, "", line, 0, api.ErrForm)
		isRefused(t, "keep a = \"b\"\n", line, 0, api.ErrForm)
		isRefused(t, "#"+one, line, 0, api.ErrForm)
	}
}

func TestHowManyRules(t *testing.T) {
	full := strings.Repeat("record r = 1\n", api.MaxRules)
	c := isFine(t, one+full+"group h every 2\n"+full+"group i every 3\n"+full)
	for i, g := range c.Groups {
		if len(g.Rules) != api.MaxRules || g.Every != i+1 {
			t.Errorf("P10.1: %d rules", len(g.Rules))
		}
	}
	for _, ahead := range []string{one + full, one + "\n#\n" + full + "#\n\n", one + full + "group h every 1\n" + full, one + "group h every 1\n" + full, one + full + "group h every 1\ngroup i every 1\n" + full} {
		for _, line := range []string{"record r = 1", `record s{a="b"} = 1`, "record r = $", "record r = ", "record r = a[5t]", "record r = what(1)"} {
			isRefused(t, ahead, line, 0, api.ErrMany)
		}
	}
	c = isFine(t, one+"record c = 3\nrecord a = 1\n#\nrecord b = 2\ngroup h every 1\ngroup i every 1\nrecord d = 4")
	got := []string{}
	for _, g := range c.Groups {
		got = append(got, g.Name)
		for _, r := range g.Rules {
			got = append(got, r.Record+expr.Print(r.E))
		}
	}
	if strings.Join(got, " ") != "g c3 a1 b2 h i d4" {
		t.Errorf("P10.2: %q", got)
	}
}

// TestErrorsOfExpressions: each one of expr's Parse and of types' Rule, at its own place behind that of the expression.
func TestErrorsOfExpressions(t *testing.T) {
	nine := `{a="1",b="2",c="3",d="4",e="5",f="6",g="7",h="8",i="9"}`
	for _, c := range []struct {
		text string
		at   int
		why  api.Errno
	}{
		{strings.Repeat(" ", 601), 0, api.ErrLong}, {strings.Repeat("1", 601), 0, api.ErrLong}, {strings.Repeat(" ", 600) + "$", 0, api.ErrLong}, {"1" + strings.Repeat(" ", 600), 0, api.ErrLong}, {strings.Repeat("$", 2000), 0, api.ErrLong},
		{"$", 0, api.ErrSign}, {"1 + $", 4, api.ErrSign}, {"  !", 2, api.ErrSign}, {"a\r", 1, api.ErrSign}, {"1 #", 2, api.ErrSign}, {`a{b="c`, 4, api.ErrSign}, {strings.Repeat("n", 21), 0, api.ErrSign}, {"a[101t]", 2, api.ErrSign}, {"1.2345678", 0, api.ErrSign}, {strings.Repeat(" ", 599) + "$", 599, api.ErrSign}, {"\xff", 0, api.ErrSign},
		{"", 0, api.ErrText}, {" ", 1, api.ErrText}, {"\t", 1, api.ErrText}, {strings.Repeat(" ", 600), 600, api.ErrText}, {"= 1", 0, api.ErrText}, {"a = 1", 2, api.ErrText}, {"1 +", 3, api.ErrText}, {"(1", 2, api.ErrText}, {"1)", 1, api.ErrText}, {"a b", 2, api.ErrText}, {"on (a)", 0, api.ErrText}, {`"a"`, 0, api.ErrText}, {"a[]", 2, api.ErrText}, {" = 1", 1, api.ErrText}, {"r = r = 1", 2, api.ErrText},
		{strings.Repeat("(", 16) + "1" + strings.Repeat(")", 16), 16, api.ErrDeep}, {strings.Repeat("-", 17), 16, api.ErrDeep}, {strings.Repeat("(", 300), 16, api.ErrDeep},
		{nine, len(nine) - 1, api.ErrMany}, {"sum by (a, a) (b)", 12, api.ErrMany}, {"a + on (b, b) c", 12, api.ErrMany}, {"sum by (a, b, c, d, e, f, g, h, i) (b)", 33, api.ErrMany},
		{"1 > 2", 2, api.ErrType}, {"a[5t]", 0, api.ErrType}, {"  a[5t]", 2, api.ErrType}, {"(a[5t])", 1, api.ErrType}, {"{}[1t]", 0, api.ErrType}, {"rate(a)", 5, api.ErrType}, {"sum(1)", 4, api.ErrType}, {"-a[5t]", 1, api.ErrType}, {"1 + a[5t]", 4, api.ErrType}, {"a + on (b) 1", 2, api.ErrType}, {"1 == 1", 2, api.ErrType},
		{"what(a[5t])", 0, api.ErrName}, {"1 + what(a)", 4, api.ErrName}, {"sum(by(a))", 4, api.ErrName}, {" rates(a[5t])", 1, api.ErrName}, {"without(1)", 0, api.ErrName},
		{"what(a) + $", 10, api.ErrSign}, {"what(a) +", 9, api.ErrText}, {"a[5t] + what(1)", 8, api.ErrName},
	} {
		for _, begin := range []string{"record r = ", `record long_name{a="x = \"y"} = `} {
			isRefused(t, one, begin+c.text, len(begin)+c.at, c.why)
			isRefused(t, one+"record q = 1\ngroup h every 1\nrecord q = 2\n", begin+c.text, len(begin)+c.at, c.why)
		}
	}
	for _, text := range []string{strings.Repeat(" ", 599) + "1", "1" + strings.Repeat(" ", 599), strings.Repeat("(", 15) + "1" + strings.Repeat(")", 15), strings.Repeat("-", 15) + "1", "1" + strings.Repeat("+1", 299), `{a="1",b="2",c="3",d="4",e="5",f="6",g="7",h="8"}`} {
		isFine(t, one+"record r = "+text)
	}
}

// TestFirstErrors: the first line's, whatever the later ones have; within a line the one that the chapter names first.
func TestFirstErrors(t *testing.T) {
	rules8, keeps6 := strings.Repeat("record r = 1\n", 8), strings.Repeat("keep a = \"b\"\n", 6)
	bad := []struct {
		ahead, line string
		at          int
		why         api.Errno
	}{
		{"", "what", 0, api.ErrForm}, {"", "record r = $", 0, api.ErrForm}, {one, `keep a = "b"`, 0, api.ErrForm}, {keeps6, `drop a = "b"`, 0, api.ErrMany}, {one, "group g every 1", 0, api.ErrTwice}, {one + "group h every 1\ngroup i every 1\n", "group g every 1", 0, api.ErrMany}, {one + rules8, "record r = $", 0, api.ErrMany},
		{one, "record r = $", 11, api.ErrSign}, {one, "record r = (", 12, api.ErrText}, {one, "record r = what(1)", 11, api.ErrName}, {one, "record r = 1 > 1", 13, api.ErrType}, {one, "record r{} = $", 0, api.ErrForm}, {one + rules8, "record r{} = $", 0, api.ErrForm},
	}
	for _, first := range bad {
		for _, second := range bad {
			isParsed(t, first.ahead+first.line+"\n"+second.ahead+second.line+"\n", len(first.ahead)+first.at, first.why)
			isParsed(t, first.ahead+first.line+"\n"+second.line+"\n"+first.line, len(first.ahead)+first.at, first.why)
		}
		isParsed(t, first.ahead+first.line+strings.Repeat("\n", 3000), 0, api.ErrLong)
	}
}

func TestModelOfAnyFile(t *testing.T) {
	r := rand.New(rand.NewSource(101))
	seen := map[api.Errno]int{}
	for range 20000 {
		s := randomFile(r)
		want := modelled(s)
		isParsed(t, s, want.at, want.why)
		seen[want.why]++
	}
	for _, why := range []api.Errno{api.OK, api.ErrForm, api.ErrTwice, api.ErrMany, api.ErrSign, api.ErrText} {
		if seen[why] < 10 {
			t.Errorf("too few files of error %d: %d", why, seen[why])
		}
	}
}

// TestAllShortLines: all lines of a few of these pieces.
func TestAllShortLines(t *testing.T) {
	pieces := []string{" ", "group", "every", "record", "g", "1", "=", `"`, "{", "}", "keep", "#", `\`}
	lines := []string{""}
	for range 4 {
		for _, line := range slices.Clone(lines) {
			for _, p := range pieces {
				lines = append(lines, line+p)
			}
		}
		slices.Sort(lines)
		lines = slices.Compact(lines)
	}
	for _, line := range lines {
		for _, s := range []string{line, one + "record " + line} {
			want := modelled(s)
			if got := parse(s); got.at != want.at || got.why != want.why || !isEqual(got.c, want.c) {
				t.Fatalf("P10.1: %q: %s, the model %s", s, told(got), told(want))
			}
		}
	}
}

// TestParsedMemory: what is answered is new each time, and no two lists of it share any.
func TestParsedMemory(t *testing.T) {
	r := rand.New(rand.NewSource(102))
	for range 300 {
		s := fileText(randomConfig(r))
		c, d := parse(s), parse(s)
		if !isApart(c.c, d.c) {
			t.Fatalf("P10.2: lists of %q share memory", s)
		}
	}
}

func FuzzParse(f *testing.F) {
	r := rand.New(rand.NewSource(103))
	for range 30 {
		f.Add(randomFile(r))
	}
	for _, line := range linesOfNoRecord() {
		f.Add(one + line)
	}
	f.Fuzz(func(t *testing.T, s string) {
		got, want := parse(s), modelled(s)
		if got.at != want.at || got.why != want.why || !isEqual(got.c, want.c) {
			t.Fatalf("P10.1: %q: %s, the model %s", s, told(got), told(want))
		}
		if got.why == api.OK {
			isReadBack(t, got.c)
		}
	})
}
