package utf_test

import (
	"math"
	"slices"
	"testing"
	"unicode/utf8"

	"cardbox/utf"
)

// edges are the bytes at which something begins or ends in what UTF-8 says.
const edges = "\x00\x01\x7f\x80\x81\x8f\x90\x9f\xa0\xbe\xbf\xc0\xc1\xc2\xdf\xe0\xe1\xec\xed\xee\xef\xf0\xf1\xf3\xf4\xf5\xf7\xf8\xfb\xfc\xfe\xff"

// points are the least and the greatest ones of each length, those beside the
// gap, and some between, with their bytes.
var points = []struct {
	point int32
	bytes string
}{
	{0x00, "\x00"}, {0x41, "A"}, {0x7f, "\x7f"},
	{0x80, "\xc2\x80"}, {0xe9, "\xc3\xa9"}, {0x7ff, "\xdf\xbf"},
	{0x800, "\xe0\xa0\x80"}, {0x20ac, "\xe2\x82\xac"}, {0xcfff, "\xec\xbf\xbf"},
	{0xd000, "\xed\x80\x80"}, {0xd7ff, "\xed\x9f\xbf"}, {0xe000, "\xee\x80\x80"},
	{0xfffd, "\xef\xbf\xbd"}, {0xffff, "\xef\xbf\xbf"},
	{0x10000, "\xf0\x90\x80\x80"}, {0x1f600, "\xf0\x9f\x98\x80"},
	{0x3ffff, "\xf0\xbf\xbf\xbf"}, {0x40000, "\xf1\x80\x80\x80"},
	{0x100000, "\xf4\x80\x80\x80"}, {0x10ffff, "\xf4\x8f\xbf\xbf"},
}

// noPoints are numbers that are no points.
var noPoints = []int32{
	-1, -2, -0x80, -0xd800, math.MinInt32, 0xd800, 0xdbff, 0xdc00, 0xdfff,
	0x110000, 0x1fffff, 0x200000, math.MaxInt32,
}

// noBytes are texts at whose beginning no point's bytes stand.
var noBytes = []string{
	"",
	"\x80", "\xbf", "\x80\x80", "\xbf\xbf\xbf\xbf", // not a first byte
	"\xc0\x80", "\xc0\xaf", "\xc1\xbf", // two bytes for what one would do
	"\xe0\x80\x80", "\xe0\x81\xbf", "\xe0\x82\x80", "\xe0\x9f\xbf", // three
	"\xf0\x80\x80\x80", "\xf0\x82\x82\xac", "\xf0\x8f\xbf\xbf", // four
	"\xed\xa0\x80", "\xed\xaf\xbf", "\xed\xb0\x80", "\xed\xbf\xbf", // D800 to DFFF
	"\xed\xa0\xbd\xed\xb8\x80",                                 // a pair of these
	"\xf4\x90\x80\x80", "\xf5\x80\x80\x80", "\xf7\xbf\xbf\xbf", // beyond 10FFFF
	"\xf8\x88\x80\x80\x80", "\xfb\xbf\xbf\xbf\xbf", "\xfc\x84\x80\x80\x80\x80", "\xfe", "\xff",
	"\xc2", "\xdf", "\xe2", "\xe2\x82", "\xf0", "\xf0\x9f", "\xf0\x9f\x98", // ended too early
	"\xc2A", "\xc2\xc2\x80", "\xe2A\xac", "\xe2\x82A", "\xe2\x82\xc2", // another one goes on
	"\xf0A\x98\x80", "\xf0\x9fA\x80", "\xf0\x9f\x98A", "\xf0\x9f\x98\xff",
	"\xc3\x29", "\xc3\xe9", "\xe2\x02\xac", "\xe2\xc2\xac", // lower six bits that would do
}

// oneOf is what One ought to tell, by the library.
func oneOf(s string, at int) (int32, int) {
	if at < 0 || at >= len(s) {
		return 0, 0
	}
	r, n := utf8.DecodeRuneInString(s[at:])
	if r == utf8.RuneError && n < 2 {
		return 0, 0
	}
	return r, n
}

// putOf is what Put ought to tell, by the library.
func putOf(n int32) string {
	if !utf8.ValidRune(n) {
		return ""
	}
	return string(n)
}

// pointsOf is what Points ought to tell, by the library.
func pointsOf(s string) ([]int32, int) {
	var l []int32
	at := 0
	for {
		p, n := oneOf(s, at)
		if n == 0 {
			return l, at
		}
		l = append(l, p)
		at += n
	}
}

// checkOne holds One against the library.
func checkOne(t *testing.T, s string, at int) {
	t.Helper()
	p, n := utf.One(s, at)
	if wantP, wantN := oneOf(s, at); p != wantP || n != wantN {
		t.Fatalf("One(%q, %d) = %x, %d; want %x, %d", s, at, p, n, wantP, wantN)
	}
}

// checkText holds Bad and Points, and Join of what they tell, against the library.
func checkText(t *testing.T, s string) {
	t.Helper()
	l, at := utf.Points(s)
	want, wantAt := pointsOf(s)
	if at != wantAt || !slices.Equal(l, want) {
		t.Fatalf("Points(%q) = %x, %d; want %x, %d", s, l, at, want, wantAt)
	}
	if bad := utf.Bad(s); bad != wantAt {
		t.Fatalf("Bad(%q) = %d; want %d", s, bad, wantAt)
	}
	if back, n := utf.Join(l); back != s[:at] || n != len(l) {
		t.Fatalf("Join(%x) = %q, %d; want %q, %d", l, back, n, s[:at], len(l))
	}
}

// eachText calls f with all texts of n bytes of those of from.
func eachText(from string, n int, f func(string)) {
	if n == 0 {
		f("")
		return
	}
	eachText(from, n-1, func(s string) {
		for i := range len(from) {
			f(s + from[i:i+1])
		}
	})
}

// P1.1: One at the points that the chapter names.
func TestOneOfPoints(t *testing.T) {
	for _, x := range points {
		for _, ahead := range []string{"", "a", "\xc3\xa9", "\xff", "\xf0\x9f"} {
			for _, behind := range []string{"", "z", "\x80", "\xff"} {
				p, n := utf.One(ahead+x.bytes+behind, len(ahead))
				if p != x.point || n != len(x.bytes) {
					t.Errorf("%q between %q and %q: %x, %d", x.bytes, ahead, behind, p, n)
				}
			}
		}
		for at := 1; at < len(x.bytes); at++ {
			if p, n := utf.One(x.bytes, at); p != 0 || n != 0 {
				t.Errorf("%q at %d: %x, %d", x.bytes, at, p, n)
			}
			if p, n := utf.One(x.bytes[:at], 0); p != 0 || n != 0 {
				t.Errorf("%q: %x, %d", x.bytes[:at], p, n)
			}
		}
	}
}

// P1.1: One of what is no point's bytes.
func TestOneOfNone(t *testing.T) {
	for _, s := range noBytes {
		if p, n := utf.One(s, 0); p != 0 || n != 0 {
			t.Errorf("%q: %x, %d", s, p, n)
		}
		if p, n := utf.One("a"+s, 1); p != 0 || n != 0 {
			t.Errorf("%q behind a: %x, %d", s, p, n)
		}
	}
}

// P1.1: places without the text.
func TestOneWithoutTheText(t *testing.T) {
	for _, s := range []string{"", "a", "abc", "\xc3\xa9", "\xf0\x9f\x98\x80", "\xff"} {
		for _, at := range []int{-1, -2, -len(s), math.MinInt, math.MinInt + 1, len(s), len(s) + 1, math.MaxInt - 1, math.MaxInt} {
			if at == 0 && s != "" {
				continue
			}
			if p, n := utf.One(s, at); p != 0 || n != 0 {
				t.Errorf("One(%q, %d) = %x, %d", s, at, p, n)
			}
		}
	}
}

// P1.1: all texts of up to three bytes, and those of four and five at the edges.
func TestOneOfAllBytes(t *testing.T) {
	all := make([]byte, 256)
	for i := range all {
		all[i] = byte(i)
	}
	for n := range 4 {
		eachText(string(all), n, func(s string) { checkOne(t, s, 0) })
	}
	eachText(edges, 4, func(s string) { checkOne(t, s, 0) })
	eachText("\x00\x7f\x80\xbf\xc2\xe0\xf0\xf4\xff", 5, func(s string) {
		for at := -1; at <= len(s)+1; at++ {
			checkOne(t, s, at)
		}
	})
}

// P1.1: Put at the points that the chapter names, and at what is none.
func TestPut(t *testing.T) {
	for _, x := range points {
		if s := utf.Put(x.point); s != x.bytes {
			t.Errorf("%x: %q, want %q", x.point, s, x.bytes)
		}
	}
	for _, n := range noPoints {
		if s := utf.Put(n); s != "" {
			t.Errorf("%x: %q", n, s)
		}
	}
}

// P1.1: Put and One of all points, and Put of what lies around them.
func TestPutOfAllPoints(t *testing.T) {
	for n := int32(-0x1000); n < 0x210000; n++ {
		s := utf.Put(n)
		if want := putOf(n); s != want {
			t.Fatalf("%x: %q, want %q", n, s, want)
		}
		if s == "" {
			continue
		}
		if p, long := utf.One(s, 0); p != n || long != len(s) {
			t.Fatalf("%x: %q is %x, %d", n, s, p, long)
		}
	}
	for i := range 64 {
		for _, d := range []int32{-1, 0, 1} {
			n := int32(uint32(1)<<(i%32)) + d
			if s := utf.Put(n); s != putOf(n) {
				t.Errorf("%x: %q", n, s)
			}
		}
	}
}

// P1.2: Bad and Points, of what is right and what isn't.
func TestBadAndPoints(t *testing.T) {
	for _, x := range []struct {
		s    string
		l    []int32
		at   int
		what string
	}{
		{"", nil, 0, "no bytes"},
		{"abc", []int32{0x61, 0x62, 0x63}, 3, "one byte each"},
		{"\x00\x7f", []int32{0, 0x7f}, 2, "the least and the greatest of one byte"},
		{"a\xc3\xa9\xe2\x82\xac\xf0\x9f\x98\x80", []int32{0x61, 0xe9, 0x20ac, 0x1f600}, 10, "all lengths"},
		{"\xed\x9f\xbf\xee\x80\x80", []int32{0xd7ff, 0xe000}, 6, "beside the gap"},
		{"\xf4\x8f\xbf\xbfa", []int32{0x10ffff, 0x61}, 5, "the greatest"},
		{"\xef\xbb\xbfa", []int32{0xfeff, 0x61}, 4, "a mark of the order of bytes is a point"},
		{"a\xc0\x80", []int32{0x61}, 1, "two bytes for one"},
		{"\xc3\xa9\xa9", []int32{0xe9}, 2, "a byte too many"},
		{"\xc3\xa9\xed\xa0\x80z", []int32{0xe9}, 2, "D800"},
		{"\xed\xbf\xbf", nil, 0, "DFFF"},
		{"ab\xf4\x90\x80\x80", []int32{0x61, 0x62}, 2, "110000"},
		{"ab\xe2\x82", []int32{0x61, 0x62}, 2, "ended too early"},
		{"ab\xe2\x82c", []int32{0x61, 0x62}, 2, "broken off"},
		{"\xffabc", nil, 0, "wrong at the beginning"},
		{"abc\xff", []int32{0x61, 0x62, 0x63}, 3, "wrong at the end"},
		{"a\xffb\xff", []int32{0x61}, 1, "the first of two"},
	} {
		if at := utf.Bad(x.s); at != x.at {
			t.Errorf("%s: Bad(%q) = %d, want %d", x.what, x.s, at, x.at)
		}
		if l, at := utf.Points(x.s); at != x.at || !slices.Equal(l, x.l) {
			t.Errorf("%s: Points(%q) = %x, %d, want %x, %d", x.what, x.s, l, at, x.l, x.at)
		}
	}
	for _, s := range noBytes[1:] {
		for _, ahead := range []string{"", "a", "\xc3\xa9\xe2\x82\xac\xf0\x9f\x98\x80"} {
			checkText(t, ahead+s)
			checkText(t, ahead+s+"z")
			if at := utf.Bad(ahead + s); at != len(ahead) {
				t.Errorf("%q behind %q: %d", s, ahead, at)
			}
		}
	}
}

// P1.2: Bad and Points of all texts of some bytes.
func TestBadAndPointsOfAllBytes(t *testing.T) {
	for n := range 4 {
		eachText(edges, n, func(s string) { checkText(t, s) })
	}
	eachText("\x00\x7f\x80\xbf\xc2\xe0\xed\xf0\xf4", 5, func(s string) { checkText(t, s) })
}

// P1.2: Join of points, and of what is none.
func TestJoin(t *testing.T) {
	for _, x := range []struct {
		l []int32
		s string
		n int
	}{
		{nil, "", 0},
		{[]int32{}, "", 0},
		{[]int32{0}, "\x00", 1},
		{[]int32{0x61, 0xe9, 0x20ac, 0x1f600}, "a\xc3\xa9\xe2\x82\xac\xf0\x9f\x98\x80", 4},
		{[]int32{0xd7ff, 0xe000, 0x10ffff}, "\xed\x9f\xbf\xee\x80\x80\xf4\x8f\xbf\xbf", 3},
		{[]int32{0x61, 0x62, 0xd800, 0x63, -1}, "ab", 2},
		{[]int32{0xd83d, 0xde00}, "", 0},
		{[]int32{-1, 0x61}, "", 0},
	} {
		if s, n := utf.Join(x.l); s != x.s || n != x.n {
			t.Errorf("Join(%x) = %q, %d, want %q, %d", x.l, s, n, x.s, x.n)
		}
	}
	for _, bad := range noPoints {
		if s, n := utf.Join([]int32{0x61, 0xe9, bad, 0x62}); s != "a\xc3\xa9" || n != 2 {
			t.Errorf("%x: %q, %d", bad, s, n)
		}
		if s, n := utf.Join([]int32{0x61, bad}); s != "a" || n != 1 {
			t.Errorf("%x at the end: %q, %d", bad, s, n)
		}
	}
}

// P1.3: there and back, of all points at once and of the pairs of the edges.
func TestThereAndBack(t *testing.T) {
	var all []int32
	for n := int32(0); n <= 0x10ffff; n++ {
		if utf8.ValidRune(n) {
			all = append(all, n)
		}
	}
	s, n := utf.Join(all)
	if n != len(all) || s != string(all) {
		t.Fatalf("all points: %d of %d, %d bytes", n, len(all), len(s))
	}
	if l, at := utf.Points(s); at != len(s) || !slices.Equal(l, all) {
		t.Fatalf("all points: %d of %d, at %d", len(l), len(all), at)
	}
	if at := utf.Bad(s); at != len(s) {
		t.Fatalf("all points: bad at %d", at)
	}
	for _, x := range points {
		for _, y := range points {
			two := []int32{x.point, y.point}
			s, _ := utf.Join(two)
			if l, at := utf.Points(s); s != x.bytes+y.bytes || at != len(s) || !slices.Equal(l, two) {
				t.Errorf("%x: %q, %x, %d", two, s, l, at)
			}
			checkText(t, x.bytes+y.bytes)
		}
	}
}

// Rule 5: what is handed in stays, its spare room too; what is answered is new.
func TestNewMemory(t *testing.T) {
	l := []int32{0x61, 0xe9, -1, 0x62}
	utf.Join(l[:2])
	utf.Join(l)
	if !slices.Equal(l, []int32{0x61, 0xe9, -1, 0x62}) {
		t.Error(l)
	}
	a, _ := utf.Points("a\xc3\xa9")
	b, _ := utf.Points("a\xc3\xa9")
	a[0] = 0
	_ = append(a, 0x7a)
	if !slices.Equal(b, []int32{0x61, 0xe9}) {
		t.Error(b)
	}
}
