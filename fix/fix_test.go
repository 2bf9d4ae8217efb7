package fix

import (
	"math"
	"math/big"
	"math/rand"
	"regexp"
	"slices"
	"strings"
	"testing"

	"spillway/api"
)

const top = math.MaxInt64

var over = api.Num{Ovf: true}

func n(millionths int64) api.Num { return api.Num{N: millionths} }

// strange: what isn't Is, and so counts as overflow.
func strange() []api.Num {
	return []api.Num{{N: math.MinInt64}, {Ovf: true, N: math.MinInt64}, {Ovf: true, N: -1}, {Ovf: true, N: 1}, {Ovf: true, N: 5}, {Ovf: true, N: top}}
}

// edges: numbers at and beside the places where an answer turns.
func edges() []api.Num {
	l := append(strange(), over)
	for _, near := range []int64{0, api.Scale, api.Scale * api.Scale, 1 << 31, 1 << 32, 3037000499, 3037000499976, 1 << 62, top / api.Scale, top / 2, top - 1} {
		for _, d := range []int64{-1, 0, 1} {
			l = append(l, n(near+d), n(-(near + d)))
		}
	}
	return l
}

func anyNum(r *rand.Rand) api.Num {
	e := edges()
	if r.Intn(3) == 0 {
		return e[r.Intn(len(e))]
	}
	return n(int64(r.Uint64()) >> r.Intn(64))
}

func isOver(l ...api.Num) bool {
	return slices.ContainsFunc(l, func(a api.Num) bool { return a.Ovf || a.N == math.MinInt64 })
}

func whole(x *big.Int) api.Num {
	if !x.IsInt64() || x.Int64() == math.MinInt64 {
		return over
	}
	return n(x.Int64())
}

func wanted(sign byte, a, b api.Num) api.Num {
	if isOver(a, b) || sign == '/' && b.N == 0 {
		return over
	}
	x, y, scale := big.NewInt(a.N), big.NewInt(b.N), big.NewInt(api.Scale)
	switch sign {
	case '+':
		return whole(x.Add(x, y))
	case '-':
		return whole(x.Sub(x, y))
	case '*':
		x.Mul(x, y)
		return whole(x.Quo(x, scale))
	}
	x.Mul(x, scale)
	return whole(x.Quo(x, y))
}

func reckoned(sign byte, a, b api.Num) api.Num {
	switch sign {
	case '+':
		return Add(a, b)
	case '-':
		return Sub(a, b)
	case '*':
		return Mul(a, b)
	}
	return Div(a, b)
}

// Is

func TestIs(t *testing.T) {
	for _, a := range []api.Num{{}, over, n(1), n(-1), n(top), n(top - 1), n(-top), n(-top + 1)} {
		if !Is(a) {
			t.Errorf("P2: Is(%v): false", a)
		}
	}
	for _, a := range strange() {
		if Is(a) {
			t.Errorf("P2: Is(%v): true", a)
		}
	}
}

func TestStrangeCountsAsOverflow(t *testing.T) {
	for _, a := range strange() {
		for _, b := range []api.Num{n(0), n(1), n(-top), over, {N: math.MinInt64}} {
			for _, sign := range []byte("+-*/") {
				if got := reckoned(sign, a, b); got != over {
					t.Errorf("P2.1: %v %c %v: %v", a, sign, b, got)
				}
				if got := reckoned(sign, b, a); got != over {
					t.Errorf("P2.1: %v %c %v: %v", b, sign, a, got)
				}
			}
		}
		if Neg(a) != over || Sum(a) != over || Sum(n(1), a, n(-1)) != over {
			t.Errorf("P2.1: Neg, Sum of %v", a)
		}
		if Cmp(a, over) != 0 || Cmp(over, a) != 0 || Cmp(a, a) != 0 || Cmp(a, n(top)) != 1 || Cmp(n(top), a) != -1 {
			t.Errorf("P2.2: %v", a)
		}
		if Print(a) != "ovf" {
			t.Errorf("P2.3: Print(%v): %s", a, Print(a))
		}
	}
}

// P2.1

func TestOf(t *testing.T) {
	const most = top / api.Scale // 9223372036854
	for _, c := range []struct {
		n    int64
		want api.Num
	}{
		{0, n(0)}, {1, n(1000000)}, {-1, n(-1000000)}, {7, n(7000000)}, {most, n(9223372036854000000)}, {-most, n(-9223372036854000000)},
		{most + 1, over}, {-most - 1, over}, {1 << 44, over}, {1 << 58, over}, {-1 << 58, over}, {top, over}, {-top, over}, {math.MinInt64, over},
	} {
		if got := Of(c.n); got != c.want {
			t.Errorf("P2.1: Of(%d): %v, not %v", c.n, got, c.want)
		}
	}
	r := rand.New(rand.NewSource(21))
	for range 3000 {
		x := int64(r.Uint64()) >> r.Intn(64)
		if got, want := Of(x), whole(new(big.Int).Mul(big.NewInt(x), big.NewInt(api.Scale))); got != want {
			t.Fatalf("P2.1: Of(%d): %v, not %v", x, got, want)
		}
	}
}

func TestReckonsByHand(t *testing.T) {
	for _, c := range []struct {
		a    api.Num
		sign byte
		b    api.Num
		want api.Num
	}{
		{Of(2), '+', Of(3), Of(5)},
		{n(1), '+', n(-1), n(0)},
		{n(top), '+', n(0), n(top)},
		{n(top - 1), '+', n(1), n(top)},
		{n(top), '+', n(1), over},
		{n(-top), '+', n(-1), over}, // one beyond is a number of int64, and none here
		{n(-top), '+', n(-2), over},
		{n(-top), '+', n(-top), over},
		{n(-top), '+', n(top), n(0)},
		{over, '+', n(1), over},
		{Of(2), '-', Of(3), Of(-1)},
		{n(0), '-', n(top), n(-top)},
		{n(0), '-', n(-top), n(top)},
		{n(-1), '-', n(top), over},
		{n(1), '-', n(-top), over},
		{n(-1), '-', n(-top), n(top - 1)},
		{over, '-', over, over},
		{Of(2), '*', Of(-3), Of(-6)},
		{n(1500000), '*', n(1500000), n(2250000)},
		{n(1), '*', n(999999), n(0)},
		{n(-1), '*', n(999999), n(0)},
		{n(1), '*', n(-1), n(0)},
		{n(-1), '*', n(1000000), n(-1)},
		{n(3), '*', n(500000), n(1)},
		{n(-3), '*', n(500000), n(-1)}, // towards nought, not down
		{n(-3), '*', n(-500000), n(1)},
		{n(top), '*', Of(1), n(top)},
		{n(top), '*', Of(-1), n(-top)},
		{n(top), '*', n(1000001), over},
		{n(top), '*', n(999999), n(9223362813482738952)},
		{n(-top), '*', n(999999), n(-9223362813482738952)},
		{n(top), '*', n(top), over},
		{n(-top), '*', n(top), over},
		{over, '*', n(0), over},
		{n(0), '*', over, over},
		{Of(1), '/', Of(3), n(333333)},
		{Of(-1), '/', Of(3), n(-333333)},
		{Of(1), '/', Of(-3), n(-333333)},
		{Of(-1), '/', Of(-3), n(333333)},
		{Of(2), '/', Of(3), n(666666)},
		{Of(-2), '/', Of(3), n(-666666)},
		{n(1), '/', Of(2), n(0)},
		{n(-1), '/', Of(2), n(0)},
		{n(0), '/', Of(7), n(0)},
		{n(0), '/', n(0), over},
		{n(1), '/', n(0), over},
		{n(-top), '/', n(0), over},
		{n(top), '/', Of(1), n(top)},
		{n(top), '/', Of(-1), n(-top)},
		{n(top), '/', n(999999), over},
		{n(top), '/', n(1), over},
		{n(-top), '/', n(-1), over},
		{n(top / api.Scale), '/', n(1), n(9223372036854000000)},
		{n(top/api.Scale + 1), '/', n(1), over},
		{n(top), '/', n(top), Of(1)},
		{n(-top), '/', n(top), Of(-1)},
		{n(1), '/', n(top), n(0)},
		{over, '/', Of(1), over},
		{Of(1), '/', over, over},
	} {
		if got := reckoned(c.sign, c.a, c.b); got != c.want {
			t.Errorf("P2.1: %v %c %v: %v, not %v", c.a, c.sign, c.b, got, c.want)
		}
	}
}

func TestReckonsExactly(t *testing.T) {
	held := func(a, b api.Num) {
		for _, sign := range []byte("+-*/") {
			if got, want := reckoned(sign, a, b), wanted(sign, a, b); got != want {
				t.Fatalf("P2.1: %v %c %v: %v, not %v", a, sign, b, got, want)
			}
		}
	}
	for _, a := range edges() {
		for _, b := range edges() {
			held(a, b)
		}
	}
	r := rand.New(rand.NewSource(22))
	for range 20000 {
		held(anyNum(r), anyNum(r))
	}
}

func TestNeg(t *testing.T) {
	for _, c := range []struct{ a, want api.Num }{
		{n(0), n(0)}, {n(1), n(-1)}, {n(-1), n(1)}, {n(top), n(-top)}, {n(-top), n(top)}, {over, over}, {n(math.MinInt64), over},
	} {
		if got := Neg(c.a); got != c.want {
			t.Errorf("P2.1: Neg(%v): %v, not %v", c.a, got, c.want)
		}
	}
}

func TestSumByHand(t *testing.T) {
	many := func(a api.Num, times int) []api.Num { return slices.Repeat([]api.Num{a}, times) }
	for i, c := range []struct {
		l    []api.Num
		want api.Num
	}{
		{nil, n(0)},
		{[]api.Num{}, n(0)},
		{[]api.Num{Of(3)}, Of(3)},
		{[]api.Num{Of(3), Of(4), Of(-9)}, Of(-2)},
		{[]api.Num{n(top), n(1)}, over},
		{[]api.Num{n(-top), n(-1)}, over},
		{[]api.Num{n(-top), n(-2)}, over},
		{[]api.Num{n(-top), n(-1), n(1)}, n(-top)},
		{[]api.Num{n(top), n(1), n(-1)}, n(top)},
		{[]api.Num{n(top), n(top), n(-top), n(-top)}, n(0)},
		{[]api.Num{n(-top), n(-top), n(-top), n(top), n(top)}, n(-top)},
		{[]api.Num{n(top), n(top), n(2)}, over}, // as 64 bits wrap round: nought
		{[]api.Num{n(-top), n(-top), n(-2)}, over},
		{[]api.Num{n(top), over, n(-top)}, over},
		{[]api.Num{over}, over},
		{[]api.Num{n(top), n(top), over}, over},
		{slices.Concat(many(n(top), 1000), many(n(-top), 1000)), n(0)},
		{slices.Concat(many(n(-top), 1000), many(n(top), 999), many(n(1), 7)), n(-top + 7)},
		{slices.Concat(many(n(top), 1000), many(n(-top), 998)), over},
		{slices.Concat(many(n(top), 4), many(n(1), 4)), over}, // 2^65: all of the lower 64 bits are 0
	} {
		if got := Sum(c.l...); got != c.want {
			t.Errorf("P2.1: row %d: %v, not %v", i, got, c.want)
		}
	}
	if got := Sum(); got != n(0) {
		t.Errorf("P2.1: Sum of none: %v", got)
	}
}

func TestSumExactly(t *testing.T) {
	r := rand.New(rand.NewSource(23))
	for range 6000 {
		l, sum := make([]api.Num, r.Intn(12)), new(big.Int)
		for i := range l {
			l[i] = anyNum(r)
			for isOver(l[i]) && r.Intn(20) != 0 {
				l[i] = anyNum(r)
			}
			sum.Add(sum, big.NewInt(l[i].N))
		}
		want := whole(sum)
		if isOver(l...) {
			want = over
		}
		was := slices.Clone(l)
		if got := Sum(l...); got != want {
			t.Fatalf("P2.1: Sum(%v): %v, not %v", l, got, want)
		}
		if !slices.Equal(l, was) {
			t.Fatalf("P2.1: Sum changed what was handed in: %v", was)
		}
		r.Shuffle(len(l), func(i, j int) { l[i], l[j] = l[j], l[i] })
		if got := Sum(l...); got != want {
			t.Fatalf("P2.1: Sum(%v) in another order: %v, not %v", l, got, want)
		}
	}
}

// P2.2

func TestCmp(t *testing.T) {
	rising := []api.Num{n(-top), n(-top + 1), Of(-1), n(-1), n(0), n(1), n(999999), Of(1), Of(2), n(1 << 62), n(top - 1), n(top), over}
	for i, a := range rising {
		for j, b := range rising {
			want := 0
			if i < j {
				want = -1
			} else if i > j {
				want = 1
			}
			if got := Cmp(a, b); got != want {
				t.Errorf("P2.2: Cmp(%v, %v): %d, not %d", a, b, got, want)
			}
		}
	}
}

// P2.3

func TestParseAndPrint(t *testing.T) {
	for _, c := range []struct {
		s    string
		want api.Num
	}{
		{"0", n(0)}, {"1", Of(1)}, {"-1", Of(-1)}, {"10", Of(10)}, {"105", Of(105)}, {"1000000", Of(1000000)},
		{"0.000001", n(1)}, {"-0.000001", n(-1)}, {"0.1", n(100000)}, {"-0.5", n(-500000)}, {"0.05", n(50000)}, {"0.00001", n(10)}, {"0.333333", n(333333)}, {"0.100001", n(100001)},
		{"12.34", n(12340000)}, {"-12.034", n(-12034000)}, {"10.01", n(10010000)}, {"123.456789", n(123456789)},
		{"1234567890123", n(1234567890123000000)}, {"-1234567890123.000001", n(-1234567890123000001)},
		{"9223372036854", n(9223372036854000000)}, {"9223372036854.775807", n(top)}, {"-9223372036854.775807", n(-top)}, {"9223372036854.775806", n(top - 1)},
		{"ovf", over},
	} {
		if got, e := Parse(c.s); got != c.want || e != api.OK {
			t.Errorf("P2.3: Parse(%s): %v, %v", c.s, got, e)
		}
		if got := Print(c.want); got != c.s {
			t.Errorf("P2.3: Print(%v): %s, not %s", c.want, got, c.s)
		}
	}
}

func TestParseLonger(t *testing.T) {
	for s, want := range map[string]api.Num{
		"-0": n(0), "0.0": n(0), "-0.0": n(0), "0.000000": n(0), "-0.000000": n(0),
		"1.0": Of(1), "1.500000": n(1500000), "1.50": n(1500000), "-2.100": n(-2100000), "10.000000": Of(10), "0.10": n(100000),
		"9223372036854.775808": over, "-9223372036854.775808": over, "9223372036854.775809": over, "9223372036854.8": over, "9223372036855": over, "-9223372036855": over,
		"9999999999999": over, "-9999999999999": over, "9999999999999.999999": over, "-9999999999999.999999": over,
	} {
		if got, e := Parse(s); got != want || e != api.OK {
			t.Errorf("P2.3: Parse(%s): %v, %v", s, got, e)
		}
	}
}

func TestParseNoNumber(t *testing.T) {
	wrong := []string{
		"", "-", ".", "-.", "--1", "+1", "+", "-+1", "1-", "1 ", " 1", "1\n", "\x001", "1\x00", "a", "1a", "a1", "1e3", "0x1", "1_000", "1,5",
		"01", "00", "-01", "-00", "00.5", "01.5", "-00.5", "0000000000001",
		"1.", "-1.", "0.", ".5", "-.5", "1..5", "1.2.3", "1.5.", "1.-5", "-1.-5", "1.+5", "1. 5", "1.5 ", "1.5a", "1.a",
		"0.0000000", "1.0000000", "1.1234567", "-0.0000001",
		"10000000000000", "12345678901234", "-12345678901234", "12345678901234.5", "00000000000000", "18446744073709551616",
		"Ovf", "OVF", "-ovf", "ovf ", " ovf", "ov", "ovff", "ovf.0", "1ovf", "+ovf", "nan", "inf",
		"\u0661", "1\u0662", "\u00bd", "\uff11", "1\xff", "/", ":", "1/", "1:", "0./", "0.:",
		strings.Repeat("1", 100000), "0." + strings.Repeat("0", 100000), strings.Repeat("-", 100000),
	}
	for _, s := range wrong {
		if got, e := Parse(s); got != (api.Num{}) || e != api.ErrNum {
			t.Errorf("P2.3: Parse(%.30q): %v, %v", s, got, e)
		}
	}
}

func TestParseLengths(t *testing.T) {
	for digits := range 30 {
		for decimals := range 12 {
			s := strings.Repeat("1", digits)
			ok := digits >= 1 && digits <= 13
			if decimals > 0 {
				s += "." + strings.Repeat("1", decimals)
				ok = ok && decimals <= 6
			}
			for _, s := range []string{s, "-" + s} {
				if got, e := Parse(s); ok != (e == api.OK) || !ok && (got != (api.Num{}) || e != api.ErrNum) {
					t.Errorf("P2.3: Parse(%s): %v, %v", s, got, e)
				}
			}
		}
	}
}

var (
	numberForm   = regexp.MustCompile(`\A-?(0|[1-9][0-9]{0,12})(\.[0-9]{1,6})?\z`)
	shortestForm = regexp.MustCompile(`\A(0|-?[1-9][0-9]{0,12}|-?(0|[1-9][0-9]{0,12})\.[0-9]{0,5}[1-9])\z`)
)

// told: what a text of a number tells, by the chapter's words.
func told(s string) (api.Num, api.Errno) {
	if s == "ovf" {
		return over, api.OK
	}
	if !numberForm.MatchString(s) {
		return api.Num{}, api.ErrNum
	}
	x, _ := new(big.Rat).SetString(s)
	x.Mul(x, big.NewRat(api.Scale, 1))
	return whole(x.Num()), api.OK
}

func TestParseAnyText(t *testing.T) {
	r := rand.New(rand.NewSource(24))
	const signs = "00000111279999-..ovf+ "
	for range 60000 {
		b := make([]byte, r.Intn(10))
		for i := range b {
			b[i] = signs[r.Intn(len(signs))]
		}
		s := string(b)
		want, wantE := told(s)
		if got, e := Parse(s); got != want || e != wantE {
			t.Fatalf("P2.3: Parse(%q): %v, %v", s, got, e)
		}
	}
}

func TestParseAnyNumber(t *testing.T) {
	r := rand.New(rand.NewSource(25))
	for range 20000 {
		b := []byte("-")[r.Intn(2):]
		for range r.Intn(15) {
			b = append(b, byte('0'+r.Intn(10)))
		}
		if r.Intn(3) != 0 {
			b = append(b, '.')
			for range r.Intn(8) {
				b = append(b, byte('0'+r.Intn(10)))
			}
		}
		want, wantE := told(string(b))
		if got, e := Parse(string(b)); got != want || e != wantE {
			t.Fatalf("P2.3: Parse(%q): %v, %v", b, got, e)
		}
	}
}

func TestPrintIsShortest(t *testing.T) {
	r := rand.New(rand.NewSource(26))
	for range 20000 {
		a := anyNum(r)
		s := Print(a)
		if isOver(a) {
			if s != "ovf" {
				t.Fatalf("P2.3: Print(%v): %s", a, s)
			}
			continue
		}
		if got, e := told(s); !shortestForm.MatchString(s) || got != a || e != api.OK {
			t.Fatalf("P2.3: Print(%v): %s", a, s)
		}
	}
}

// P2.4

func TestPrintedIsRead(t *testing.T) {
	held := func(a api.Num) {
		want := a
		if !Is(a) {
			want = over
		}
		if got, e := Parse(Print(a)); got != want || e != api.OK {
			t.Fatalf("P2.4: %v: %s: %v, %v", a, Print(a), got, e)
		}
	}
	for _, a := range edges() {
		held(a)
	}
	for millionths := int64(-3000); millionths <= 3000; millionths++ {
		held(n(millionths))
		held(n(millionths * 1000))
		held(n(millionths * api.Scale))
	}
	r := rand.New(rand.NewSource(27))
	for range 20000 {
		held(anyNum(r))
	}
}
