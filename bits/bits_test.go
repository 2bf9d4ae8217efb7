package bits

import (
	"bytes"
	"hash/crc32"
	"math"
	"math/rand"
	"slices"
	"strings"
	"testing"

	"spillway/api"
)

const spare = 0xA5

// roomy: b with room behind it, so that a call that appends in place is caught.
func roomy(b []byte) []byte {
	r := bytes.Repeat([]byte{spare}, len(b)+70000)
	copy(r, b)
	return r[:len(b)]
}

func intact(t *testing.T, what string, in, was []byte) {
	t.Helper()
	if !bytes.Equal(in, was) {
		t.Fatalf("%s: what was handed in is changed", what)
	}
	for _, c := range in[len(in):cap(in)] {
		if c != spare {
			t.Fatalf("%s: the spare room of what was handed in is changed", what)
		}
	}
}

// apart: neither of the two is touched by what is done with the other, spare room included.
func apart(t *testing.T, what string, in, out []byte) {
	t.Helper()
	in, out = in[:cap(in)], out[:cap(out)]
	wasIn, wasOut := slices.Clone(in), slices.Clone(out)
	for i := range out {
		out[i] ^= 0xFF
	}
	if !bytes.Equal(in, wasIn) {
		t.Fatalf("%s: the answer shares memory with what was handed in", what)
	}
	copy(out, wasOut)
	for i := range in {
		in[i] ^= 0xFF
	}
	if !bytes.Equal(out, wasOut) {
		t.Fatalf("%s: what was handed in is kept in the answer", what)
	}
	copy(in, wasIn)
}

// P1.1

func TestSumKnown(t *testing.T) {
	for _, c := range []struct {
		b    []byte
		want uint32
	}{
		{nil, 0},
		{[]byte{}, 0},
		{[]byte{0}, 0xD202EF8D},
		{[]byte{0xFF}, 0xFF000000},
		{[]byte("a"), 0xE8B7BE43},
		{[]byte("123456789"), 0xCBF43926},
		{make([]byte, 32), 0x190A55AD},
		{bytes.Repeat([]byte{0xFF}, 32), 0xFF6CAB0B},
	} {
		if got := Sum(c.b); got != c.want {
			t.Errorf("P1.1: Sum(%x): %#x, not %#x", c.b, got, c.want)
		}
	}
}

func TestSumOfEveryByte(t *testing.T) {
	for c := range 256 {
		for _, b := range [][]byte{{byte(c)}, {byte(c), 0}, {0, byte(c)}} {
			if got, want := Sum(b), crc32.ChecksumIEEE(b); got != want {
				t.Errorf("P1.1: Sum(%x): %#x, not %#x", b, got, want)
			}
		}
	}
}

func TestSumOfAnyLength(t *testing.T) {
	r := rand.New(rand.NewSource(11))
	for n := range 600 {
		b := make([]byte, n)
		r.Read(b)
		in := roomy(b)
		if got, want := Sum(in), crc32.ChecksumIEEE(b); got != want {
			t.Fatalf("P1.1: Sum(%x): %#x, not %#x", b, got, want)
		}
		intact(t, "P1.1", in, b)
	}
}

// P1.2: Put, Get

func TestPutWidths(t *testing.T) {
	const n = 0x8877665544332211
	all := []byte{0x11, 0x22, 0x33, 0x44, 0x55, 0x66, 0x77, 0x88}
	for _, c := range []struct{ width, held int }{
		{math.MinInt, 0}, {-9, 0}, {-1, 0}, {0, 0}, {1, 1}, {2, 2}, {3, 3}, {4, 4}, {5, 5}, {6, 6}, {7, 7}, {8, 8}, {9, 8}, {64, 8}, {math.MaxInt, 8},
	} {
		for _, ahead := range [][]byte{nil, {}, {0}, {9, 8, 7}} {
			in := roomy(ahead)
			got := Put(in, n, c.width)
			if want := append(slices.Clone(ahead), all[:c.held]...); !bytes.Equal(got, want) {
				t.Errorf("P1.2: Put(%x, n, %d): %x, not %x", ahead, c.width, got, want)
			}
			intact(t, "P1.2: Put", in, ahead)
			apart(t, "P1.2: Put", in, got)
		}
	}
}

func TestPutNumbers(t *testing.T) {
	for _, c := range []struct {
		n     uint64
		width int
		want  []byte
	}{
		{0, 1, []byte{0}},
		{255, 1, []byte{255}},
		{256, 1, []byte{0}},
		{256, 2, []byte{0, 1}},
		{65535, 2, []byte{255, 255}},
		{65536, 2, []byte{0, 0}},
		{1, 8, []byte{1, 0, 0, 0, 0, 0, 0, 0}},
		{1 << 63, 8, []byte{0, 0, 0, 0, 0, 0, 0, 128}},
		{math.MaxUint64, 8, bytes.Repeat([]byte{255}, 8)},
	} {
		if got := Put(nil, c.n, c.width); !bytes.Equal(got, c.want) {
			t.Errorf("P1.2: Put(nil, %d, %d): %x, not %x", c.n, c.width, got, c.want)
		}
	}
}

func TestGetWidths(t *testing.T) {
	b := []byte{0x11, 0x22, 0x33, 0x44, 0x55, 0x66, 0x77, 0x88, 0x99}
	for _, c := range []struct {
		width int
		n     uint64
		held  int
	}{
		{math.MinInt, 0, 0},
		{-1, 0, 0},
		{0, 0, 0},
		{1, 0x11, 1},
		{2, 0x2211, 2},
		{3, 0x332211, 3},
		{4, 0x44332211, 4},
		{5, 0x5544332211, 5},
		{6, 0x665544332211, 6},
		{7, 0x77665544332211, 7},
		{8, 0x8877665544332211, 8},
		{9, 0x8877665544332211, 8},
		{math.MaxInt, 0x8877665544332211, 8},
	} {
		in := roomy(b)
		n, rest, e := Get(in, c.width)
		if n != c.n || !bytes.Equal(rest, b[c.held:]) || e != api.OK {
			t.Errorf("P1.2: Get(b, %d): %#x, %x, %v", c.width, n, rest, e)
		}
		intact(t, "P1.2: Get", in, b)
		apart(t, "P1.2: Get", in, rest)
	}
}

func TestGetTooEarly(t *testing.T) {
	b := []byte{1, 2, 3, 4, 5, 6, 7, 8}
	for width := range 12 {
		for have := range len(b) + 1 {
			in := roomy(b[:have])
			n, rest, e := Get(in, width)
			if have >= min(width, 8) {
				if e != api.OK || len(rest) != have-min(width, 8) {
					t.Errorf("P1.2: Get of %d bytes of %d: %x, %v", width, have, rest, e)
				}
				continue
			}
			if n != 0 || !bytes.Equal(rest, b[:have]) || e != api.ErrShort {
				t.Errorf("P1.2: Get of %d bytes of %d: %d, %x, %v", width, have, n, rest, e)
			}
			intact(t, "P1.2: Get, short", in, b[:have])
			apart(t, "P1.2: Get, short", in, rest)
		}
	}
	for _, none := range [][]byte{nil, {}} {
		if n, rest, e := Get(none, 1); n != 0 || len(rest) != 0 || e != api.ErrShort {
			t.Errorf("P1.2: Get of nothing: %d, %x, %v", n, rest, e)
		}
		for _, width := range []int{0, -1} {
			if n, rest, e := Get(none, width); n != 0 || len(rest) != 0 || e != api.OK {
				t.Errorf("P1.2: Get of no bytes of nothing: %d, %x, %v", n, rest, e)
			}
		}
	}
}

// P1.2: Text, GetText

func numbered(n int) string {
	b := make([]byte, n)
	for i := range b {
		b[i] = byte(i % 251)
	}
	return string(b)
}

func TestTextLengths(t *testing.T) {
	for _, c := range []struct {
		length, kept int
		low, high    byte
	}{
		{0, 0, 0, 0}, {1, 1, 1, 0}, {255, 255, 255, 0}, {256, 256, 0, 1}, {65534, 65534, 254, 255}, {65535, 65535, 255, 255}, {65536, 65535, 255, 255}, {65537, 65535, 255, 255}, {131072, 65535, 255, 255},
	} {
		s := numbered(c.length)
		for _, ahead := range [][]byte{nil, {4, 5}} {
			in := roomy(ahead)
			got := Text(in, s)
			want := append(append(slices.Clone(ahead), c.low, c.high), s[:c.kept]...)
			if !bytes.Equal(got, want) {
				t.Errorf("P1.2: Text of %d bytes: %d bytes, not %d", c.length, len(got), len(want))
			}
			intact(t, "P1.2: Text", in, ahead)
			apart(t, "P1.2: Text", in, got)
		}
	}
}

func TestTextIsBytes(t *testing.T) {
	if got, want := Text(nil, "\x00\xff\xc3\xa9"), []byte{4, 0, 0, 0xFF, 0xC3, 0xA9}; !bytes.Equal(got, want) {
		t.Errorf("P1.2: Text: %x, not %x", got, want)
	}
	if s, _, e := GetText([]byte{2, 0, 0x80, 0xC3}, 2); s != "\x80\xc3" || e != api.OK {
		t.Errorf("P1.2: GetText: %q, %v", s, e)
	}
}

func TestGetText(t *testing.T) {
	for i, c := range []struct {
		b    []byte
		most int
		s    string
		rest []byte
		e    api.Errno
	}{
		{[]byte{3, 0, 'a', 'b', 'c'}, 3, "abc", nil, api.OK},
		{[]byte{3, 0, 'a', 'b', 'c'}, math.MaxInt, "abc", nil, api.OK},
		{[]byte{3, 0, 'a', 'b', 'c', 0, 9}, 3, "abc", []byte{0, 9}, api.OK},
		{[]byte{0, 0}, 0, "", nil, api.OK},
		{[]byte{0, 0, 7}, 0, "", []byte{7}, api.OK},
		{[]byte{3, 0, 'a', 'b', 'c'}, 2, "", []byte{3, 0, 'a', 'b', 'c'}, api.ErrLong},
		{[]byte{1, 0, 'a'}, 0, "", []byte{1, 0, 'a'}, api.ErrLong},
		{[]byte{0, 0}, -1, "", []byte{0, 0}, api.ErrLong},
		{[]byte{0, 0}, math.MinInt, "", []byte{0, 0}, api.ErrLong},
		{[]byte{0, 1}, 255, "", []byte{0, 1}, api.ErrLong}, // too long and too short: the first that is named
		{[]byte{0, 1}, 256, "", []byte{0, 1}, api.ErrShort},
		{[]byte{3, 0, 'a', 'b'}, 3, "", []byte{3, 0, 'a', 'b'}, api.ErrShort},
		{[]byte{3, 0}, 3, "", []byte{3, 0}, api.ErrShort},
		{[]byte{3}, 3, "", []byte{3}, api.ErrShort},
		{[]byte{3}, 0, "", []byte{3}, api.ErrShort}, // half a length is none
		{[]byte{0}, -1, "", []byte{0}, api.ErrShort},
		{nil, 3, "", nil, api.ErrShort},
		{[]byte{}, -1, "", nil, api.ErrShort},
	} {
		in := roomy(c.b)
		s, rest, e := GetText(in, c.most)
		if s != c.s || !bytes.Equal(rest, c.rest) || e != c.e {
			t.Errorf("P1.2: row %d: %q, %x, %v", i, s, rest, e)
		}
		intact(t, "P1.2: GetText", in, c.b)
		apart(t, "P1.2: GetText", in, rest)
	}
}

func TestGetTextLongest(t *testing.T) {
	s := numbered(65535)
	b := append([]byte{255, 255}, s...)
	if got, rest, e := GetText(append(slices.Clone(b), 6), 65535); got != s || !bytes.Equal(rest, []byte{6}) || e != api.OK {
		t.Errorf("P1.2: as long as most: %d bytes, %d behind it, %v", len(got), len(rest), e)
	}
	if got, rest, e := GetText(b, 65534); got != "" || !bytes.Equal(rest, b) || e != api.ErrLong {
		t.Errorf("P1.2: one longer than most: %d bytes, %d behind it, %v", len(got), len(rest), e)
	}
	if got, rest, e := GetText(b[:len(b)-1], 65535); got != "" || !bytes.Equal(rest, b[:len(b)-1]) || e != api.ErrShort {
		t.Errorf("P1.2: one byte too early: %d bytes, %d behind it, %v", len(got), len(rest), e)
	}
}

// P1.2: Join

func TestJoin(t *testing.T) {
	if got := Join(); len(got) != 0 {
		t.Errorf("P1.2: nothing joined: %x", got)
	}
	for _, c := range []struct {
		l    [][]byte
		want string
	}{
		{nil, ""},
		{[][]byte{nil}, ""},
		{[][]byte{{}, nil, {}}, ""},
		{[][]byte{[]byte("ab")}, "ab"},
		{[][]byte{[]byte("ab"), []byte("c")}, "abc"},
		{[][]byte{[]byte("c"), []byte("ab")}, "cab"},
		{[][]byte{nil, []byte("ab"), {}, []byte("ab"), nil, []byte("\x00"), nil}, "abab\x00"},
		{slices.Repeat([][]byte{[]byte("xyz")}, 1000), strings.Repeat("xyz", 1000)},
	} {
		if got := Join(c.l...); string(got) != c.want {
			t.Errorf("P1.2: Join of %d pieces: %.40q, not %.40q", len(c.l), got, c.want)
		}
	}
}

func TestJoinIsNew(t *testing.T) {
	was := [][]byte{[]byte("ab"), nil, []byte("cde")}
	l := [][]byte{roomy(was[0]), nil, roomy(was[2])}
	for n := range len(l) + 1 {
		got, other := Join(l[:n]...), Join(l[:n]...)
		apart(t, "P1.2: Join, two answers", got, other)
		for i := range l[:n] {
			intact(t, "P1.2: Join", l[i], was[i])
			apart(t, "P1.2: Join", l[i], got)
		}
	}
}

// P1.3

type laid struct {
	isText bool
	n      uint64
	width  int
	s      string
}

func (l laid) put(b []byte) []byte {
	if l.isText {
		return Text(b, l.s)
	}
	return Put(b, l.n, l.width)
}

func anyLaid(r *rand.Rand) laid {
	if r.Intn(2) == 0 {
		return laid{isText: true, s: numbered(r.Intn(400))}
	}
	l := laid{n: r.Uint64() >> r.Intn(64), width: r.Intn(13) - 2}
	if held := min(max(l.width, 0), 8); held < 8 {
		l.n &= 1<<(8*held) - 1
	}
	return l
}

func TestPutIsGot(t *testing.T) {
	r := rand.New(rand.NewSource(13))
	for range 400 {
		behind := []byte(numbered(r.Intn(9)))
		all := make([]laid, r.Intn(12))
		var b []byte
		for i := range all {
			all[i] = anyLaid(r)
			b = all[i].put(b)
		}
		rest := Join(b, behind)
		for _, l := range all {
			var n uint64
			var s string
			var e api.Errno
			if l.isText {
				s, rest, e = GetText(rest, len(l.s))
			} else {
				n, rest, e = Get(rest, l.width)
			}
			if n != l.n || s != l.s || e != api.OK {
				t.Fatalf("P1.3: a text %v of %d bytes, a number %d in %d bytes: %d bytes, %d, %v", l.isText, len(l.s), l.n, l.width, len(s), n, e)
			}
		}
		if !bytes.Equal(rest, behind) {
			t.Fatalf("P1.3: behind it all: %d bytes, not %d", len(rest), len(behind))
		}
	}
}

func TestPutIsGotAtEdges(t *testing.T) {
	for _, n := range []uint64{0, 1, 255, 256, 65535, 65536, math.MaxInt64, 1 << 63, math.MaxUint64} {
		for width := -1; width <= 9; width++ {
			want := n
			if held := min(max(width, 0), 8); held < 8 {
				want &= 1<<(8*held) - 1
			}
			if got, rest, e := Get(Put(nil, n, width), width); got != want || len(rest) != 0 || e != api.OK {
				t.Errorf("P1.3: %d in %d bytes: %d, %x, %v", n, width, got, rest, e)
			}
		}
	}
	for _, length := range []int{0, 1, 255, 256, 65535, 65536} {
		s := numbered(length)
		if got, rest, e := GetText(Text(nil, s), 65535); got != s[:min(length, 65535)] || len(rest) != 0 || e != api.OK {
			t.Errorf("P1.3: a text of %d bytes: %d bytes, %d behind it, %v", length, len(got), len(rest), e)
		}
	}
}
