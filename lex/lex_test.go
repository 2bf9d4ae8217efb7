package lex

import (
	"math"
	"math/big"
	"math/rand"
	"regexp"
	"slices"
	"strconv"
	"strings"
	"testing"

	"spillway/api"
	"spillway/fix"
)

var (
	allSigns   = strings.Fields("( ) { } [ ] , + - * / = ^= *= != == > < >= <=")
	mostName   = strings.Repeat("n", api.MaxName)
	mostValue  = strings.Repeat("v", api.MaxValue)
	otherKinds = []int{-1, 6, 7, 256, 257, 1 << 32, math.MinInt, math.MaxInt}
)

func word(at int, s string) api.Token   { return api.Token{Kind: api.TIdent, At: at, Text: s} }
func num(at int, n int64) api.Token     { return api.Token{Kind: api.TNum, At: at, V: api.Num{N: n}} }
func dur(at, n int) api.Token           { return api.Token{Kind: api.TDur, At: at, N: n} }
func quote(at int, s string) api.Token  { return api.Token{Kind: api.TText, At: at, Text: s} }
func mark(at int, s string) api.Token   { return api.Token{Kind: api.TSign, At: at, Text: s} }
func end(at int) api.Token              { return api.Token{Kind: api.TEnd, At: at} }
func tokens(l ...api.Token) []api.Token { return l }

// unplaced: without the places, and without the ends.
func unplaced(l []api.Token) []api.Token {
	out := tokens()
	for _, x := range l {
		if x.At = 0; x.Kind != api.TEnd {
			out = append(out, x)
		}
	}
	return out
}

func isRead(t *testing.T, s string, want ...api.Token) {
	t.Helper()
	if l, at, e := Scan(s); e != api.OK || at != 0 || !slices.Equal(l, want) {
		t.Errorf("P7.1: %q: %v, %d, %v for %v", s, l, at, e, want)
	}
}

func isRefused(t *testing.T, s string, place int) {
	t.Helper()
	if l, at, e := Scan(s); e != api.ErrSign || at != place || len(l) != 0 {
		t.Errorf("P7.1: %q: %v, %d, %v for the place %d", s, l, at, e, place)
	}
}

func isTooLong(t *testing.T, s string) {
	t.Helper()
	if l, at, e := Scan(s); e != api.ErrLong || at != 0 || len(l) != 0 {
		t.Errorf("P7.1: %d bytes: %v, %d, %v", len(s), l, at, e)
	}
}

// P7.1

func TestScanOfNothing(t *testing.T) {
	for _, s := range []string{"", " ", "\t", "  ", " \t", "\t ", " \t \t ", strings.Repeat(" ", api.MaxText), strings.Repeat("\t", api.MaxText)} {
		isRead(t, s, end(len(s)))
	}
}

func TestScanOfExpressions(t *testing.T) {
	isRead(t, `x[5t]`, word(0, "x"), mark(1, "["), dur(2, 5), mark(4, "]"), end(5))
	isRead(t, `sum by (job) (rate(x{a="b",c!="d"}[5t])) >= 0.5`,
		word(0, "sum"), word(4, "by"), mark(7, "("), word(8, "job"), mark(11, ")"), mark(13, "("), word(14, "rate"), mark(18, "("), word(19, "x"), mark(20, "{"),
		word(21, "a"), mark(22, "="), quote(23, "b"), mark(26, ","), word(27, "c"), mark(28, "!="), quote(30, "d"), mark(33, "}"),
		mark(34, "["), dur(35, 5), mark(37, "]"), mark(38, ")"), mark(39, ")"), mark(41, ">="), num(44, 500000), end(47))
	isRead(t, `-1+-x/2`, mark(0, "-"), num(1, 1000000), mark(2, "+"), mark(3, "-"), word(4, "x"), mark(5, "/"), num(6, 2000000), end(7))
	isRead(t, `{a^="b",c*="*"}`, mark(0, "{"), word(1, "a"), mark(2, "^="), quote(4, "b"), mark(7, ","), word(8, "c"), mark(9, "*="), quote(11, "*"), mark(14, "}"), end(15))
	isRead(t, ` x `, word(1, "x"), end(3))
	isRead(t, "\tx \t y\t", word(1, "x"), word(5, "y"), end(7))
	isRead(t, `ovf`, word(0, "ovf"), end(3))
	isRead(t, `-ovf`, mark(0, "-"), word(1, "ovf"), end(4))
}

func TestScanOfNames(t *testing.T) {
	for _, s := range []string{"a", "z", "A", "Z", "_", "__", "_1", "a1", "a_1_B", "t", "t5", "__name__", mostName, mostName[1:], "n" + strings.Repeat("9", api.MaxName-1), strings.Repeat("_", api.MaxName)} {
		isRead(t, s, word(0, s), end(len(s)))
		isRead(t, "("+s+")", mark(0, "("), word(1, s), mark(1+len(s), ")"), end(2+len(s)))
		isRead(t, s+"\t"+s, word(0, s), word(len(s)+1, s), end(2*len(s)+1))
	}
	for n := api.MaxName + 1; n < 60; n++ {
		isRefused(t, strings.Repeat("n", n), 0)
		isRefused(t, "x "+strings.Repeat("_", n)+" x", 2)
		isRefused(t, "_"+strings.Repeat("7", n-1), 0)
	}
	// A name doesn't begin with a digit: what does is a number ahead of a name.
	isRead(t, "1a", num(0, 1000000), word(1, "a"), end(2))
	isRead(t, "1_", num(0, 1000000), word(1, "_"), end(2))
	isRead(t, "1e3", num(0, 1000000), word(1, "e3"), end(3))
	isRead(t, "0x1", num(0, 0), word(1, "x1"), end(3))
	isRead(t, "7"+mostName, num(0, 7000000), word(1, mostName), end(1+api.MaxName))
	isRefused(t, "7"+mostName+"n", 1)
	isRead(t, `a"b"`, word(0, "a"), quote(1, "b"), end(4))
	isRead(t, "a-b", word(0, "a"), mark(1, "-"), word(2, "b"), end(3))
	for _, s := range []string{"aé", "a.b", "a:b", "a$", "a\x00", "a\x7f", "a\xff"} {
		isRefused(t, s, 1)
	}
}

func TestScanOfDurations(t *testing.T) {
	for n := range 12000 {
		s := strconv.Itoa(n) + "t"
		for _, noughts := range []string{"", "0", "00"} {
			if s := noughts + s; noughts == "" && 1 <= n && n <= api.MaxRange {
				isRead(t, s, dur(0, n), end(len(s)))
				isRead(t, "["+s+"]", mark(0, "["), dur(1, n), mark(1+len(s), "]"), end(2+len(s)))
			} else {
				isRefused(t, s, 0)
				isRefused(t, "[ "+s+"]", 2)
			}
		}
	}
	for _, s := range []string{"4294967297t", "18446744073709551617t", "9223372036854775808t", strings.Repeat("1", 50) + "t", strings.Repeat("0", 50) + "1t"} {
		isRefused(t, s, 0)
	}
	isRead(t, "5tx", dur(0, 5), word(2, "x"), end(3))
	isRead(t, "5tt", dur(0, 5), word(2, "t"), end(3))
	isRead(t, "5t_", dur(0, 5), word(2, "_"), end(3))
	isRead(t, "5t5", dur(0, 5), num(2, 5000000), end(3))
	isRead(t, "5t5t", dur(0, 5), dur(2, 5), end(4))
	isRead(t, "5t1.5", dur(0, 5), num(2, 1500000), end(5))
	isRead(t, "5t\"t\"", dur(0, 5), quote(2, "t"), end(5))
	isRead(t, "5 t", num(0, 5000000), word(2, "t"), end(3))
	isRead(t, "5T", num(0, 5000000), word(1, "T"), end(2))
	isRead(t, "-5t", mark(0, "-"), dur(1, 5), end(3))
	isRead(t, "1.5t", num(0, 1500000), word(3, "t"), end(4))
	isRead(t, "1.05t", num(0, 1050000), word(4, "t"), end(5))
	isRead(t, "1000.5t", num(0, 1000500000), word(6, "t"), end(7))
	isRefused(t, "5t.", 2)
	isRefused(t, "5t.5", 2)
	isRefused(t, "5t05t", 2)
	isRefused(t, "5t0t", 2)
	isRefused(t, "5t101t", 2)
}

// digits: n of them, the first no nought.
func digits(n int) string { return strings.Repeat("8", n) }

func TestScanOfNumbers(t *testing.T) {
	for _, c := range []struct {
		s string
		n int64
	}{
		{"0", 0}, {"1", 1000000}, {"10", 10000000}, {"1000", 1000000000}, {"0.5", 500000}, {"1.5", 1500000}, {"1.50", 1500000}, {"0.0", 0}, {"0.000000", 0}, {"0.000001", 1}, {"1.05", 1050000},
		{"10.25", 10250000}, {"123.456789", 123456789}, {"9223372036854", 9223372036854000000}, {"9223372036854.775807", math.MaxInt64}, {"9223372036854.775806", math.MaxInt64 - 1},
	} {
		isRead(t, c.s, num(0, c.n), end(len(c.s)))
		isRead(t, "("+c.s+")", mark(0, "("), num(1, c.n), mark(1+len(c.s), ")"), end(2+len(c.s)))
		isRead(t, "-"+c.s, mark(0, "-"), num(1, c.n), end(1+len(c.s)))
		isRead(t, c.s+" "+c.s, num(0, c.n), num(1+len(c.s), c.n), end(1+2*len(c.s)))
		isRefused(t, c.s+".", len(c.s))
		isRefused(t, c.s+". 5", len(c.s))
		isRefused(t, "0"+c.s, 0)
		isRefused(t, "x 0"+c.s, 2)
	}
	// No numbers, or overflow.
	for _, s := range []string{"00", "01", "007", "00.5", "01.5", "9223372036854.775808", "9223372036854.9", "9223372036855", "9999999999999", "9999999999999.999999", "10000000000000", "1.0000000", "1.1234567", "0.0000000", "12345678901234", "00000000000000", strings.Repeat("1", api.MaxText), "0." + strings.Repeat("0", api.MaxText-2)} {
		isRefused(t, s, 0)
	}
	for whole := 1; whole < 30; whole++ {
		for decimals := range 20 {
			s := digits(whole)
			if decimals > 0 {
				s += "." + digits(decimals)
			}
			if v, e := fix.Parse(s); e == api.OK && !v.Ovf {
				isRead(t, s, num(0, v.N), end(len(s)))
			} else if whole <= 13 && decimals <= 6 {
				t.Errorf("P7.1: fix refuses %q", s)
			} else {
				isRefused(t, s, 0)
			}
		}
	}
	// Points.
	for s, place := range map[string]int{".": 0, ".5": 0, "..": 0, "1.": 1, "1..": 1, "1..5": 1, "1.5.": 3, "1.5.5": 3, "1.x": 1, "1.t": 1, "1. ": 1, "1.-5": 1, "10.": 2, "01.": 0, "5 .5": 2, "5. 5": 1, "1.\n": 1} {
		isRefused(t, s, place)
	}
	isRead(t, "1,5", num(0, 1000000), mark(1, ","), num(2, 5000000), end(3))
	isRead(t, "+1", mark(0, "+"), num(1, 1000000), end(2))
	isRead(t, "1ovf", num(0, 1000000), word(1, "ovf"), end(4))
	isRefused(t, "1٣", 1)
}

func TestScanOfTexts(t *testing.T) {
	for _, c := range []struct{ s, text string }{
		{`""`, ""}, {`"a"`, "a"}, {`" "`, " "}, {"\"\t\"", "\t"}, {"\"\r\x00\x7f\xff\"", "\r\x00\x7f\xff"}, {`"é"`, "é"}, {`"\""`, `"`}, {`"\\"`, `\`}, {`"\\\""`, `\"`}, {`"\"\\"`, `"\`}, {`"\\\\"`, `\\`},
		{`"a\"b\\c"`, `a"b\c`}, {`"(x)"`, "(x)"}, {`"5t"`, "5t"}, {`"'"`, "'"}, {`"` + mostValue + `"`, mostValue}, {`"` + strings.Repeat("é", 15) + `"`, strings.Repeat("é", 15)},
	} {
		isRead(t, c.s, quote(0, c.text), end(len(c.s)))
		isRead(t, "x"+c.s+"x", word(0, "x"), quote(1, c.text), word(1+len(c.s), "x"), end(2+len(c.s)))
		isRead(t, c.s+c.s, quote(0, c.text), quote(len(c.s), c.text), end(2*len(c.s)))
	}
	for i, s := range []string{`"`, `"a`, `"a\"`, `"\"`, `"\\\"`, `"\`, `"a\`, `"\\`, `"\a"`, `"\n"`, `"a\ "`, `"\'"`, `"\é"`, "\"\n\"", "\"a\n\"", "\"\na\"", "\"\\\n\"", "\"a\n", `"` + mostValue + `v"`, `"` + mostValue, `"` + mostValue + `\""`, `"` + mostValue + `\\"`, `"` + strings.Repeat("é", 15) + `v"`, `"` + strings.Repeat("v", api.MaxText-2) + `"`, `"` + mostValue + "\n", `"` + mostValue + `\`} {
		isRefused(t, s, 0)
		if i > 1 && len(s) < 100 {
			isRefused(t, `x "" `+s, 5)
		}
	}
	isRefused(t, `"""`, 2)
	isRefused(t, `"a"b"`, 4)
	isRefused(t, `\"a"`, 0)
	isRefused(t, `'a'`, 0)
}

func TestScanOfTextsOfManyBytes(t *testing.T) {
	for _, c := range []struct{ written, meant string }{{"v", "v"}, {" ", " "}, {`\"`, `"`}, {`\\`, `\`}, {"\xff", "\xff"}, {`a\"`, `a"`}, {`\\a`, `\a`}, {`\"\\`, `"\`}} {
		for n := range 100 {
			s := `"` + strings.Repeat(c.written, n) + `"`
			if len(c.meant)*n <= api.MaxValue {
				isRead(t, s, quote(0, strings.Repeat(c.meant, n)), end(len(s)))
			} else {
				isRefused(t, s, 0)
			}
		}
	}
}

func TestScanOfTextsByBytes(t *testing.T) {
	for c := range 256 {
		b := string([]byte{byte(c)})
		switch b {
		case `"`:
			isRefused(t, `"a`+b+`a"`, 4)
		case `\`, "\n":
			isRefused(t, `"a`+b+`a"`, 0)
		default:
			isRead(t, `"a`+b+`a"`, quote(0, "a"+b+"a"), end(5))
		}
		if b == `"` || b == `\` {
			isRead(t, `"a\`+b+`a"`, quote(0, "a"+b+"a"), end(6))
		} else {
			isRefused(t, `"a\`+b+`a"`, 0)
		}
	}
}

func TestScanOfSigns(t *testing.T) {
	for _, s := range allSigns {
		isRead(t, s, mark(0, s), end(len(s)))
		isRead(t, "a"+s+"b", word(0, "a"), mark(1, s), word(1+len(s), "b"), end(2+len(s)))
		isRead(t, " "+s+"\t", mark(1, s), end(2+len(s)))
		isRead(t, `"`+s+`"`, quote(0, s), end(2+len(s)))
		for _, next := range allSigns {
			isRead(t, s+" "+next, mark(0, s), mark(1+len(s), next), end(1+len(s)+len(next)))
		}
	}
	for s, place := range map[string]int{"!": 0, "^": 0, "! =": 0, "^ =": 0, "^^=": 0, "!!=": 0, "=!": 1, "*^": 1, "a !b": 2, "a^": 1, "a^b": 1, "!a": 0, "=^": 1, "!\t=": 0, "^\n=": 0, "<!": 1, ">^": 1} {
		isRefused(t, s, place)
	}
}

func TestScanOfSignsSideBySide(t *testing.T) {
	for s, want := range map[string]string{
		"====": "== ==", "===": "== =", "*==": "*= =", "**=": "* *=", "***": "* * *", ">==": ">= =", ">>=": "> >=", "<=>": "<= >", "=<=": "= <=", "=>": "= >", "<>": "< >", "!===": "!= ==", "!==": "!= =", "^===": "^= ==", "^=*=": "^= *=", "=^=": "= ^=", "=!=": "= !=", "-=": "- =", "+=": "+ =", "/=": "/ =", "/*=": "/ *=", "--": "- -", "++": "+ +", "//": "/ /", "==!=": "== !=", ">=<=": ">= <=", "<<=": "< <=", "*=*": "*= *", "()": "( )", "{}": "{ }", "[]": "[ ]", ",,": ", ,", "({[]})": "( { [ ] } )", "*=^=!===>=<=": "*= ^= != == >= <=",
	} {
		l, place := tokens(), 0
		for _, x := range strings.Fields(want) {
			l = append(l, mark(place, x))
			place += len(x)
		}
		isRead(t, s, append(l, end(place))...)
	}
}

// TestScanByBytes: each byte that begins no token, at the beginning, in the middle, at the end.
func TestScanByBytes(t *testing.T) {
	const begins = "(){}[],+-*/=><_ \tabcdefghijklmnopqrstuvwxyzABCDEFGHIJKLMNOPQRSTUVWXYZ0123456789"
	for c := range 256 {
		b := string([]byte{byte(c)})
		if strings.Contains(begins, b) {
			if l, at, e := Scan(b); e != api.OK || at != 0 || len(l) == 0 || l[len(l)-1] != end(1) {
				t.Errorf("P7.1: %q: %v, %d, %v", b, l, at, e)
			}
			continue
		}
		isRefused(t, b, 0)
		if b != `"` { // two of them are an empty text
			isRefused(t, b+b, 0)
		}
		isRefused(t, b+" x", 0)
		isRefused(t, "\t "+b, 2)
		isRefused(t, "x "+b+" x", 2)
		isRefused(t, "x+"+b, 2)
		isRefused(t, "5t"+b, 2)
		isRefused(t, "1.5"+b, 3)
		isRefused(t, `"$"`+b+`5`, 3)
		isRefused(t, strings.Repeat(" ", api.MaxText-1)+b, api.MaxText-1)
	}
	isRefused(t, "a\nb", 1)
	isRefused(t, "a\n", 1)
	isRefused(t, "\n", 0)
	isRefused(t, "a\r\n", 1)
	isRefused(t, "a\u00a0b", 1)
	isRefused(t, "x $ ! ^", 2)
}

func TestScanOfManyBytes(t *testing.T) {
	for _, s := range []string{" ", "\t", "(", "a ", "1 ", "5t ", `"" `, "+-", "=="} {
		full := strings.Repeat(s, api.MaxText/len(s))
		full += strings.Repeat(" ", api.MaxText-len(full))
		if l, at, e := Scan(full); e != api.OK || at != 0 || l[len(l)-1] != end(api.MaxText) {
			t.Errorf("P7.1: %d bytes of %q: %d, %v", len(full), s, at, e)
		}
		isTooLong(t, full+" ")
		isTooLong(t, full+s)
		isTooLong(t, " "+full)
		isTooLong(t, "$"+full)
		isTooLong(t, strings.Repeat(full, 1000))
	}
	l := tokens()
	for i := range api.MaxText {
		l = append(l, mark(i, "("))
	}
	isRead(t, strings.Repeat("(", api.MaxText), append(l, end(api.MaxText))...)
	// Bytes are counted, not letters; and what is too long isn't looked at.
	isRefused(t, strings.Repeat("é", api.MaxText/2), 0)
	isTooLong(t, strings.Repeat("é", api.MaxText/2)+" ")
	isRefused(t, strings.Repeat("a", api.MaxText), 0)
	isTooLong(t, strings.Repeat("a", api.MaxText+1))
	isTooLong(t, strings.Repeat("$", api.MaxText+1))
	isTooLong(t, strings.Repeat("1", 1<<20))
	isTooLong(t, `"`+strings.Repeat(`\`, 1<<20))
}

var (
	formToken  = regexp.MustCompile(`^(?:([A-Za-z_][A-Za-z0-9_]*)|([0-9]+t)|([0-9]+(?:\.[0-9]+)?)|("(?:[^"\\\n]|\\["\\])*")|([\^*!=<>]=|[(){}\[\],+\-*/=<>]))`)
	formDur    = regexp.MustCompile(`^([1-9][0-9]?|100)t$`)
	formNum    = regexp.MustCompile(`^(0|[1-9][0-9]{0,12})(\.[0-9]{1,6})?$`)
	formEscape = regexp.MustCompile(`(?s)\\(.)`)
)

// modelNum: by fractions.
func modelNum(s string) (int64, bool) {
	v, ok := new(big.Rat).SetString(s)
	if !ok || !formNum.MatchString(s) {
		return 0, false
	}
	v.Mul(v, big.NewRat(api.Scale, 1))
	return v.Num().Int64(), v.IsInt() && v.Num().IsInt64()
}

// modelFirst: the token of a form's parts, and whether it is one.
func modelFirst(m []string) (api.Token, bool) {
	switch {
	case m[1] != "":
		return word(0, m[1]), len(m[1]) <= 20
	case m[2] != "":
		n, _ := strconv.Atoi(strings.Trim(m[2], "t"))
		return dur(0, n), formDur.MatchString(m[2])
	case m[3] != "":
		n, ok := modelNum(m[3])
		return num(0, n), ok
	case m[4] != "":
		value := formEscape.ReplaceAllString(m[4][1:len(m[4])-1], "$1")
		return quote(0, value), len(value) <= 30
	}
	return mark(0, m[5]), true
}

// modelScan: by forms of texts, byte by byte.
func modelScan(s string) ([]api.Token, int, api.Errno) {
	if len(s) > 600 {
		return nil, 0, api.ErrLong
	}
	l := tokens()
	for i := 0; i < len(s); {
		if s[i] == ' ' || s[i] == '\t' {
			i++
			continue
		}
		m := formToken.FindStringSubmatch(s[i:])
		if m == nil {
			return nil, i, api.ErrSign
		}
		token, ok := modelFirst(m)
		if !ok {
			return nil, i, api.ErrSign
		}
		token.At = i
		l = append(l, token)
		i += len(m[0])
	}
	return append(l, end(len(s))), 0, api.OK
}

func isAsModel(t *testing.T, s string) {
	t.Helper()
	want, wantAt, wantE := modelScan(s)
	if l, at, e := Scan(s); e != wantE || at != wantAt || !slices.Equal(l, want) {
		t.Fatalf("P7.1: %q: %v, %d, %v for %v, %d, %v", s, l, at, e, want, wantAt, wantE)
	}
}

// TestScanOfAllShortTexts: all of up to four of the bytes at which something turns.
func TestScanOfAllShortTexts(t *testing.T) {
	const turning = "a_t015. \t\"\\\n(*=!^<$"
	level := []string{""}
	for range 4 {
		next := []string{}
		for _, s := range level {
			for i := range len(turning) {
				next = append(next, s+turning[i:i+1])
			}
		}
		for _, s := range next {
			isAsModel(t, s)
		}
		level = next
	}
}

func TestScanByForms(t *testing.T) {
	r := rand.New(rand.NewSource(71))
	pieces := append(slices.Clone(allSigns), " ", " ", "\t", "a", "t", "_", "x1", "5t", "100t", "101t", "0", "1", "1.5", "0.5", ".", "12", `""`, `"a"`, `"\""`, `"\\"`, `"`, `\`, "99999", mostName, mostValue, `"`+mostValue+`"`, "\n", "é", "$", "!", "^")
	for range 60000 {
		s := ""
		for range r.Intn(14) {
			s += pieces[r.Intn(len(pieces))]
		}
		isAsModel(t, s)
	}
	for range 200 {
		s := ""
		for len(s) < api.MaxText-4 {
			s += []string{"a ", "1 ", "(", "=", `"\"" `, "7t "}[r.Intn(6)]
		}
		isAsModel(t, s+strings.Repeat(" ", r.Intn(8)))
	}
}

// TestScanByBentTexts: good texts with a byte put in, taken out or changed.
func TestScanByBentTexts(t *testing.T) {
	r := rand.New(rand.NewSource(72))
	for range 60000 {
		b := []byte(Print(randomTokens(r, 8)...))
		at := r.Intn(len(b) + 1)
		c := "\x00\n\t \"\\(=!^*.05t_aZ\xff"[r.Intn(19)]
		if r.Intn(3) == 0 || at == len(b) {
			b = slices.Insert(b, at, c)
		} else if r.Intn(2) == 0 {
			b = slices.Delete(b, at, at+1)
		} else {
			b[at] = c
		}
		isAsModel(t, string(b))
	}
}

// TestBlanksCountForNothing: more of them between tokens move places, and nothing else.
func TestBlanksCountForNothing(t *testing.T) {
	r := rand.New(rand.NewSource(73))
	some := []string{"", " ", "\t", "  ", " \t", "\t\t "}
	for range 5000 {
		l := randomTokens(r, 8)
		s, want := some[r.Intn(len(some))], tokens()
		for _, x := range l {
			x.At = len(s)
			want = append(want, x)
			s += Print(x) + some[1+r.Intn(len(some)-1)]
		}
		isRead(t, s, append(want, end(len(s)))...)
	}
}

// P7.2

func TestPrintOfTokens(t *testing.T) {
	for i, c := range []struct {
		l    []api.Token
		want string
	}{
		{nil, ""},
		{tokens(), ""},
		{tokens(end(0)), ""},
		{tokens(end(0), end(5), end(-1)), ""},
		{tokens(word(0, "a")), "a"},
		{tokens(word(0, "a"), end(1)), "a"},
		{tokens(end(0), word(0, "a")), "a"},
		{tokens(word(0, "a"), word(0, "b")), "a b"},
		{tokens(word(0, "a"), end(1), word(1, "b")), "a b"},
		{tokens(end(0), word(0, "a"), end(0), end(0), word(0, "b"), end(0)), "a b"},
		{tokens(word(0, "x"), mark(1, "["), dur(2, 5), mark(4, "]"), end(5)), "x [ 5t ]"},
		{tokens(word(900, "a"), word(3, "b"), word(math.MinInt, "c")), "a b c"},
		{tokens(num(0, 0)), "0"},
		{tokens(num(0, 1500000)), "1.5"},
		{tokens(num(0, 1)), "0.000001"},
		{tokens(num(0, 10000000)), "10"},
		{tokens(num(0, math.MaxInt64)), "9223372036854.775807"},
		{tokens(num(0, -1500000)), "-1.5"},
		{tokens(num(0, math.MinInt64)), "ovf"},
		{tokens(api.Token{Kind: api.TNum, V: api.Num{Ovf: true}}), "ovf"},
		{tokens(api.Token{Kind: api.TNum, V: api.Num{Ovf: true, N: 7}}), "ovf"},
		{tokens(num(0, 1000000), num(0, 2000000)), "1 2"},
		{tokens(dur(0, 1)), "1t"},
		{tokens(dur(0, 100)), "100t"},
		{tokens(dur(0, 0)), "0t"},
		{tokens(dur(0, 101)), "101t"},
		{tokens(dur(0, -5)), "-5t"},
		{tokens(dur(0, math.MinInt)), "-9223372036854775808t"},
		{tokens(dur(0, math.MaxInt)), "9223372036854775807t"},
		{tokens(quote(0, "")), `""`},
		{tokens(quote(0, ""), quote(0, "")), `"" ""`},
		{tokens(quote(0, "a b")), `"a b"`},
		{tokens(quote(0, `"`)), `"\""`},
		{tokens(quote(0, `\`)), `"\\"`},
		{tokens(quote(0, `\"`)), `"\\\""`},
		{tokens(quote(0, `"\`)), `"\"\\"`},
		{tokens(quote(0, `\\""`)), `"\\\\\"\""`},
		{tokens(quote(0, "\n\t\x00\xff'é")), "\"\n\t\x00\xff'é\""},
		{tokens(quote(0, mostValue+"v")), `"` + mostValue + `v"`},
		{tokens(mark(0, "*"), mark(0, "=")), "* ="},
		{tokens(mark(0, "*=")), "*="},
		// Neither names nor signs are looked at.
		{tokens(word(0, "")), ""},
		{tokens(mark(0, "")), ""},
		{tokens(word(0, "a"), word(0, ""), mark(0, ""), word(0, "b")), "a b"},
		{tokens(word(0, ""), mark(0, "(")), "("},
		{tokens(word(0, " "), mark(0, "$")), "  $"},
		{tokens(word(0, `"`), mark(0, `\`)), `" \`},
		{tokens(word(0, mostName+"n")), mostName + "n"},
		// Of a token only what its kind has counts.
		{tokens(api.Token{Text: "x", V: fix.Of(1), N: 2}), ""},
		{tokens(api.Token{Kind: api.TIdent, Text: "x", V: fix.Of(1), N: 2}), "x"},
		{tokens(api.Token{Kind: api.TNum, Text: "x", V: fix.Of(1), N: 2}), "1"},
		{tokens(api.Token{Kind: api.TDur, Text: "x", V: fix.Of(1), N: 2}), "2t"},
		{tokens(api.Token{Kind: api.TText, Text: "x", V: fix.Of(1), N: 2}), `"x"`},
		{tokens(api.Token{Kind: api.TSign, Text: "x", V: fix.Of(1), N: 2}), "x"},
	} {
		if got := Print(c.l...); got != c.want {
			t.Errorf("P7.2: row %d: %v: %q for %q", i, c.l, got, c.want)
		}
	}
}

func TestPrintOfOtherKinds(t *testing.T) {
	for _, kind := range otherKinds {
		other := api.Token{Kind: kind, At: 1, Text: "x", V: fix.Of(1), N: 2}
		if got := Print(other); got != "" {
			t.Errorf("P7.2: kind %d: %q", kind, got)
		}
		if got := Print(word(0, "a"), other, word(0, "b"), other); got != "a b" {
			t.Errorf("P7.2: kind %d: %q", kind, got)
		}
	}
}

func TestPrintByTokens(t *testing.T) {
	r := rand.New(rand.NewSource(74))
	for range 20000 {
		l, want := tokens(), ""
		for range r.Intn(12) {
			x := randomToken(r)
			piece := x.Text
			switch x.Kind {
			case api.TNum:
				piece = fix.Print(x.V)
			case api.TDur:
				piece = strconv.Itoa(x.N) + "t"
			case api.TText:
				piece = ""
				for i := range len(x.Text) {
					if strings.Contains(`"\`, x.Text[i:i+1]) {
						piece += `\`
					}
					piece += x.Text[i : i+1]
				}
				piece = `"` + piece + `"`
			}
			if want != "" {
				want += " "
			}
			want += piece
			l = append(l, x)
			if r.Intn(4) == 0 {
				l = append(l, end(r.Intn(9)))
			}
		}
		if got := Print(l...); got != want {
			t.Fatalf("P7.2: %v: %q for %q", l, got, want)
		}
	}
}

func TestPrintOfMany(t *testing.T) {
	const many = 200000
	if got := Print(slices.Repeat(tokens(word(0, "a"), end(0)), many)...); got != strings.Repeat("a ", many-1)+"a" {
		t.Errorf("P7.2: %d bytes of %d tokens", len(got), many)
	}
	if got := Print(quote(0, strings.Repeat(`"`, many))); got != `"`+strings.Repeat(`\"`, many)+`"` {
		t.Errorf("P7.2: %d bytes of one token", len(got))
	}
}

// P7.3

func randomText(r *rand.Rand) string {
	text := ""
	for range r.Intn(api.MaxValue + 1) {
		text += []string{"a", " ", `"`, `\`, "\t", "(", "5", "t", "\xff", "\x00", string([]byte{byte(r.Intn(256))})}[r.Intn(11)]
	}
	return strings.ReplaceAll(text, "\n", "")
}

func randomToken(r *rand.Rand) api.Token {
	switch r.Intn(5) {
	case 0:
		return word(0, []string{"a", "t", "_", "x_1", "on", "sum", "ovf", "t5", mostName}[r.Intn(9)])
	case 1:
		return num(0, []int64{0, 1, 1000000, 1500000, math.MaxInt64, r.Int63(), r.Int63n(api.Scale), r.Int63n(100) * api.Scale}[r.Intn(8)])
	case 2:
		return dur(0, []int{1, 9, 10, 99, api.MaxRange, 1 + r.Intn(api.MaxRange)}[r.Intn(6)])
	case 3:
		return quote(0, []string{"", mostValue, `"`, `\`, randomText(r), randomText(r)}[r.Intn(6)])
	}
	return mark(0, allSigns[r.Intn(len(allSigns))])
}

func randomTokens(r *rand.Rand, most int) []api.Token {
	l := tokens()
	for range r.Intn(most + 1) {
		l = append(l, randomToken(r))
	}
	return l
}

func isReadAsPrinted(t *testing.T, l []api.Token) {
	t.Helper()
	text := Print(l...)
	got, at, e := Scan(text)
	if len(text) > api.MaxText {
		isTooLong(t, text)
		return
	}
	if e != api.OK || at != 0 || got[len(got)-1] != end(len(text)) || !slices.Equal(unplaced(got), unplaced(l)) {
		t.Fatalf("P7.3: %q: %v, %d, %v for %v", text, got, at, e, l)
	}
	if again := Print(got...); again != text {
		t.Fatalf("P7.3: %q printed again as %q", text, again)
	}
}

func TestPrintedIsRead(t *testing.T) {
	r := rand.New(rand.NewSource(75))
	for range 20000 {
		l := randomTokens(r, 9)
		isReadAsPrinted(t, l)
		isReadAsPrinted(t, append(l, end(0)))
	}
	for range 500 {
		isReadAsPrinted(t, randomTokens(r, 150))
	}
	for n := 1; n <= api.MaxRange; n++ {
		isReadAsPrinted(t, tokens(dur(0, n), num(0, int64(n)), num(0, math.MaxInt64-int64(n)), dur(0, n)))
	}
}

// TestPairsArePrintedApart: whatever two tokens stand side by side, neither takes of the other.
func TestPairsArePrintedApart(t *testing.T) {
	all := tokens(word(0, "a"), word(0, "t"), word(0, "_1"), word(0, mostName), num(0, 0), num(0, 1000000), num(0, 1500000), num(0, 1), num(0, math.MaxInt64), dur(0, 1), dur(0, 100), quote(0, ""), quote(0, `"`), quote(0, `\`), quote(0, mostValue))
	for _, s := range allSigns {
		all = append(all, mark(0, s))
	}
	for _, a := range all {
		for _, b := range all {
			isReadAsPrinted(t, tokens(a, b))
			for _, c := range all {
				isReadAsPrinted(t, tokens(a, b, c))
			}
		}
	}
}

func TestReadIsPrinted(t *testing.T) {
	r := rand.New(rand.NewSource(76))
	pieces := append(slices.Clone(allSigns), " ", "\t", "a", "t", "1", "1.50", "0.0", "5t", "100t", `""`, `"a\"\\"`, ",", "x_1")
	for range 20000 {
		s := ""
		for range r.Intn(20) {
			s += pieces[r.Intn(len(pieces))]
		}
		if l, _, e := Scan(s); e == api.OK {
			isReadAsPrinted(t, l)
		}
	}
	// With the blanks it may be too long.
	for n, fits := range map[int]bool{300: true, 301: false, 600: false} {
		l, _, _ := Scan(strings.Repeat("(", n))
		if text := Print(l...); len(text) != 2*n-1 || len(text) <= api.MaxText != fits {
			t.Errorf("P7.3: %d signs: %d bytes", n, len(text))
		}
		isReadAsPrinted(t, l)
	}
}

// What is handed in stays as it was; what is answered is new.

func TestHandedInStays(t *testing.T) {
	room := tokens(word(0, "a"), num(1, 7), end(3), dur(2, 5), quote(9, `"`), mark(4, "("), end(5), word(1, ""), api.Token{Kind: 77, At: 3, Text: "x", V: fix.Of(1), N: 2})
	was := slices.Clone(room)
	for i := range len(room) + 1 {
		for n := i; n <= len(room); n++ {
			Print(room[i:n]...)
			if !slices.Equal(room, was) {
				t.Fatalf("P7.2: what was handed in is another thing, or what is behind it: %v", room)
			}
		}
	}
}

func TestAnswersAreNew(t *testing.T) {
	for _, s := range []string{"", "a", `sum(x{a="b"}[5t]) + 1.5`, strings.Repeat("(", api.MaxText)} {
		want, _, _ := modelScan(s)
		kept, _, _ := Scan(s)
		for range 3 {
			l, at, e := Scan(s)
			if e != api.OK || at != 0 || !slices.Equal(l, want) {
				t.Fatalf("P7.1: another answer: %v, %d, %v", l, at, e)
			}
			l = l[:cap(l)]
			for i := range l {
				l[i] = word(i, "other")
			}
			if !slices.Equal(kept, want) {
				t.Fatalf("P7.1: two answers share memory: %v", kept)
			}
		}
	}
}

// FuzzScan: nothing panics, and what comes of it is as the model tells.
func FuzzScan(f *testing.F) {
	f.Add(`sum by (job) (rate(x_1{a!="b\"",c*="\\"}[5t])) >= 1.5`)
	f.Add("")
	f.Add("1.t 05t \"\n")
	f.Fuzz(func(t *testing.T, s string) {
		isAsModel(t, s)
		if l, _, e := Scan(s); e == api.OK {
			isReadAsPrinted(t, l)
		}
	})
}
