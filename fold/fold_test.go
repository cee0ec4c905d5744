package fold_test

import (
	"math/rand"
	"slices"
	"strings"
	"testing"
	"unsafe"

	"cardbox/fold"
)

const (
	great = "ABCDEFGHIJKLMNOPQRSTUVWXYZ"
	small = "abcdefghijklmnopqrstuvwxyz"
)

// foldOf is what Fold ought to tell: each letter is looked up.
func foldOf(s string) string {
	var b strings.Builder
	for i := range len(s) {
		c := s[i]
		if at := strings.IndexByte(great, c); at >= 0 {
			c = small[at]
		}
		b.WriteByte(c)
	}
	return b.String()
}

// hasOf is what Has ought to tell: each place is looked at.
func hasOf(s, part string) bool {
	s, part = foldOf(s), foldOf(part)
	for at := 0; at+len(part) <= len(s); at++ {
		if s[at:at+len(part)] == part {
			return true
		}
	}
	return false
}

// compareOf is what Compare ought to tell.
func compareOf(a, b string) int {
	switch a, b = foldOf(a), foldOf(b); {
	case a < b:
		return -1
	case a > b:
		return 1
	}
	return 0
}

// termsOf is what Terms ought to tell: each byte goes on with a term, or ends
// it.
func termsOf(q string) []string {
	var l []string
	term, within := "", false
	end := func() {
		if term != "" {
			l = append(l, term)
		}
		term = ""
	}
	for i := range len(q) {
		switch c := q[i : i+1]; {
		case c == `"`:
			end()
			within = !within
		case c == " " && !within:
			end()
		default:
			term += c
		}
	}
	end()
	return l
}

// matchOf is what Match ought to tell.
func matchOf(q string, texts []string) bool {
	for _, term := range termsOf(q) {
		n := 0
		for _, s := range texts {
			if hasOf(s, term) {
				n++
			}
		}
		if n == 0 {
			return false
		}
	}
	return true
}

// checkFold holds a folded text against what is wanted.
func checkFold(t *testing.T, s, want string) {
	t.Helper()
	if got := fold.Fold(s); got != want {
		t.Fatalf("Fold(%.80q) = %.80q; want %.80q", s, got, want)
	}
}

// checkHas holds Has against what is wanted, the two texts in unlike case too.
func checkHas(t *testing.T, s, part string, want bool) {
	t.Helper()
	for _, a := range cases(s) {
		for _, b := range cases(part) {
			if got := fold.Has(a, b); got != want {
				t.Fatalf("Has(%.80q, %.80q) = %t; want %t", a, b, got, want)
			}
		}
	}
}

// checkCompare holds Compare against what is wanted, both ways round, the two
// texts in unlike case too.
func checkCompare(t *testing.T, a, b string, want int) {
	t.Helper()
	for _, x := range cases(a) {
		for _, y := range cases(b) {
			if got := fold.Compare(x, y); got != want {
				t.Fatalf("Compare(%.80q, %.80q) = %d; want %d", x, y, got, want)
			}
			if got := fold.Compare(y, x); got != -want {
				t.Fatalf("Compare(%.80q, %.80q) = %d; want %d", y, x, got, -want)
			}
		}
	}
}

// checkTerms holds the terms of a question against what is wanted.
func checkTerms(t *testing.T, q string, want ...string) {
	t.Helper()
	if got := fold.Terms(q); !slices.Equal(got, want) {
		t.Fatalf("Terms(%.80q) = %.200q; want %.200q", q, got, want)
	}
}

// checkMatch holds Match against what is wanted, the question and the texts in
// unlike case too, and the texts in another order.
func checkMatch(t *testing.T, want bool, q string, texts ...string) {
	t.Helper()
	back := slices.Clone(texts)
	slices.Reverse(back)
	for _, l := range [][]string{texts, back, each(texts, foldOf), each(texts, raise)} {
		for _, x := range cases(q) {
			if got := fold.Match(x, l); got != want {
				t.Fatalf("Match(%.80q, %.200q) = %t; want %t", x, l, got, want)
			}
		}
	}
}

// each is what f makes of each text.
func each(texts []string, f func(string) string) []string {
	var l []string
	for _, s := range texts {
		l = append(l, f(s))
	}
	return l
}

// cases are a text, and the same with small letters, with great ones, and with
// each letter in the other case.
func cases(s string) []string {
	return []string{s, foldOf(s), raise(s), turn(s)}
}

// raise has great letters in the place of small ones.
func raise(s string) string {
	return bytewise(s, func(c byte) byte {
		if at := strings.IndexByte(small, c); at >= 0 {
			return great[at]
		}
		return c
	})
}

// turn has great letters in the place of small ones, and small ones in the
// place of great ones.
func turn(s string) string {
	return bytewise(s, func(c byte) byte {
		if at := strings.IndexByte(small, c); at >= 0 {
			return great[at]
		}
		return foldOf(string([]byte{c}))[0]
	})
}

// bytewise is what f makes of each byte of a text.
func bytewise(s string, f func(byte) byte) string {
	b := []byte(s)
	for i, c := range b {
		b[i] = f(c)
	}
	return string(b)
}

// one is a text of one byte.
func one(c int) string { return string([]byte{byte(c)}) }

// eachText calls f with all texts of at most so many bytes of some.
func eachText(bytes string, most int, f func(string)) {
	f("")
	if most == 0 {
		return
	}
	for i := range len(bytes) {
		eachText(bytes, most-1, func(s string) { f(bytes[i:i+1] + s) })
	}
}

// P16.1: each byte folded, alone and among others.
func TestFoldBytes(t *testing.T) {
	all, folded := "", ""
	for c := range 256 {
		want := one(c)
		if 0x41 <= c && c <= 0x5a {
			want = one(c + 0x20)
		}
		checkFold(t, one(c), want)
		checkFold(t, "X"+one(c)+"Y\xff", "x"+want+"y\xff")
		checkFold(t, "\u00c9"+one(c)+one(c), "\u00c9"+want+want)
		all, folded = all+one(c), folded+want
	}
	checkFold(t, all, folded)
	checkFold(t, folded, folded)
	for c := range 1 << 16 {
		s := one(c>>8) + one(c)
		checkFold(t, s, foldOf(s))
	}
}

// P16.1: texts folded: letters of ASCII alone have another case.
func TestFold(t *testing.T) {
	checkFold(t, "", "")
	checkFold(t, great, small)
	checkFold(t, small, small)
	checkFold(t, "@AZ[`az{", "@az[`az{")
	checkFold(t, "Grace HOPPER", "grace hopper")
	checkFold(t, "aBcDeF 0123", "abcdef 0123")
	checkFold(t, "i\x00J", "i\x00j")
	// What other rules of case turn into something else.
	for _, s := range []string{"\u00c9", "\u00e9", "\u00c0\u00d6\u00d8\u00de", "\u00df", "\u1e9e", "\u0130", "\u0131", "\u212a", "\u017f", "\u0410\u042f", "\u0391\u03a9\u03a3\u03c2", "\u01c5", "\uff21\uff3a", "\U00010400", "\ufb00", "\u24b6", "\u2160"} {
		checkFold(t, s, s)
		checkFold(t, "A"+s+"Z", "a"+s+"z")
	}
	// What is no UTF-8.
	for _, s := range []string{"\x80", "\xc1", "\xda", "\xc3", "\xff\xfe", "\xc3\x28", "\xed\xa0\x80", "\xf4\x90\x80\x80", "\xc0\x81", "\xe2\x84"} {
		checkFold(t, s, s)
		checkFold(t, "A"+s+"Z", "a"+s+"z")
	}
	for n := range 300 {
		checkFold(t, strings.Repeat("Q", n), strings.Repeat("q", n))
		checkFold(t, strings.Repeat("Q\u00c9", n), strings.Repeat("q\u00c9", n))
	}
}

// P16.1: parts of texts, at all their places, and what isn't in them.
func TestHas(t *testing.T) {
	const s = "Ada Lovelace\u00e9\x00\xffEnd"
	for from := range len(s) + 1 {
		for to := from; to <= len(s); to++ {
			checkHas(t, s, s[from:to], true)
			checkHas(t, s[from:to], s, to-from == len(s))
			if to > from {
				checkHas(t, s, s[from:to]+"!", false)
				checkHas(t, s, "!"+s[from:to], false)
			}
		}
	}
	checkHas(t, "", "", true)
	for _, x := range []string{"a", " ", "\x00", "\xff", "abc", "\u00e9"} {
		checkHas(t, x, "", true)
		checkHas(t, "", x, false)
		checkHas(t, x, x, true)
		checkHas(t, x, x+x, false)
		checkHas(t, x+x, x, true)
		checkHas(t, x, x+"a", false)
		checkHas(t, x, "q"+x, false)
	}
	checkHas(t, "xAbC", "aBc", true)
	checkHas(t, "ab", "abc", false)
	checkHas(t, "abc", "ac", false)
	checkHas(t, "abc", "cb", false)
	checkHas(t, "a b", "ab", false)
	checkHas(t, "ab", "a b", false)
	checkHas(t, "ab", " ab", false)
	checkHas(t, "Ada Lovelace", "lovelace ", false)
	checkHas(t, "Ada \"x\" Lovelace", "\"X\"", true)
}

// P16.1: parts that begin, break off, and begin anew.
func TestHasAgain(t *testing.T) {
	checkHas(t, "aab", "ab", true)
	checkHas(t, "ababac", "abac", true)
	checkHas(t, "abababac", "ababac", true)
	checkHas(t, "ababa", "abac", false)
	checkHas(t, "aaaaab", "aaab", true)
	checkHas(t, "aaaaaa", "aaab", false)
	checkHas(t, "mississippi", "issip", true)
	checkHas(t, "mississippi", "issi", true)
	checkHas(t, "mississippi", "ssippi", true)
	checkHas(t, "mississippi", "issipi", false)
	checkHas(t, "mississip", "sippi", false)
	for n := range 100 {
		checkHas(t, strings.Repeat("a", n)+"b", strings.Repeat("a", n/2)+"b", true)
		checkHas(t, strings.Repeat("a", n), strings.Repeat("a", n/2)+"b", false)
		checkHas(t, strings.Repeat("ab", n)+"ac", strings.Repeat("ab", n/2)+"ac", true)
	}
}

// P16.1: letters of ASCII alone are had in another case.
func TestHasCase(t *testing.T) {
	for c := range 256 {
		for d := range 256 {
			want := foldOf(one(c)) == foldOf(one(d))
			if got := fold.Has(one(c), one(d)); got != want {
				t.Fatalf("Has(%q, %q) = %t", one(c), one(d), got)
			}
			if got := fold.Has("x"+one(c)+"y", "X"+one(d)+"Y"); got != want {
				t.Fatalf("Has(x%qy, X%qY) = %t", one(c), one(d), got)
			}
		}
	}
	checkHas(t, "\u00c9t\u00e9", "\u00e9T\u00e9", false)
	checkHas(t, "\u00c9t\u00e9", "\u00c9T\u00e9", true)
	checkHas(t, "\u00c9t\u00e9", "\u00e9", true)
	checkHas(t, "\u00c9", "\u00e9", false)
	checkHas(t, "\u00e9", "\u00c9", false)
	checkHas(t, "k", "\u212a", false)
	checkHas(t, "\u212a", "k", false)
	checkHas(t, "s", "\u017f", false)
	checkHas(t, "\u00df", "ss", false)
	checkHas(t, "e\u0301", "\u00e9", false)
	// A part may be a piece of a letter.
	checkHas(t, "\u00e9", "\xc3", true)
	checkHas(t, "\u00e9", "\xa9", true)
	checkHas(t, "\u00e9", "\ufffd", false)
	checkHas(t, "\xff", "\ufffd", false)
	checkHas(t, "\ufffd", "\xff", false)
	checkHas(t, "\xff", "\xfe", false)
}

// P16.1: texts that are less than others.
func TestCompare(t *testing.T) {
	for _, s := range []string{"", "a", "Z", "Ada", "Grace Hopper", "\x00", "\xff", "\u00e9", "a\x00b", strings.Repeat("long", 99)} {
		checkCompare(t, s, s, 0)
		checkCompare(t, s, strings.Clone(s), 0)
		for _, x := range []string{"\x00", " ", "a", "Z", "\xff"} {
			checkCompare(t, s, s+x, -1)
			checkCompare(t, s+x, s, 1)
			checkCompare(t, s+x, s+x, 0)
		}
	}
	checkCompare(t, "abc", "ABD", -1)
	checkCompare(t, "Ab", "aB", 0)
	checkCompare(t, "a", "", 1)
	checkCompare(t, "B", "a", 1)
	checkCompare(t, "b", "A", 1)
	checkCompare(t, "aZZZ", "Bz", -1)
	checkCompare(t, "axxx", "bxxx", -1)
	checkCompare(t, "xxxa", "xxxb", -1)
	checkCompare(t, "xxxa", "xxxB", -1)
	checkCompare(t, "ab", "b", -1)
	checkCompare(t, "z", "aa", 1)
	checkCompare(t, "az", "baaa", -1)
	// What stands first is what counts.
	checkCompare(t, "abz", "aca", -1)
	checkCompare(t, "aZb", "aYc", 1)
	// The bytes between Z and a stand ahead of the letters, those behind z
	// behind them.
	for _, c := range "[\\]^_`" {
		for _, x := range small {
			checkCompare(t, string(c), string(x), -1)
			checkCompare(t, "a"+string(c), "a"+string(x), -1)
		}
	}
	for _, c := range "{|}~\x7f" {
		for _, x := range small {
			checkCompare(t, string(c), string(x), 1)
		}
	}
	for _, c := range "\x00 09:@" {
		for _, x := range small {
			checkCompare(t, string(c), string(x), -1)
		}
	}
	for c := 128; c < 256; c++ {
		for _, s := range []string{"", "a", "Z", "\x00", "\x7f", "zzz", one(c - 1)} {
			checkCompare(t, one(c), s, 1)
			checkCompare(t, "x"+one(c), "X"+s, 1)
		}
	}
	checkCompare(t, "\u00c9", "\u00e9", -1)
	checkCompare(t, "\u00e9", "f", 1)
	checkCompare(t, "\u00e9", "\u00e9", 0)
	checkCompare(t, "\uffff", "\U00010000", -1)
	checkCompare(t, "\ufffd", "\xff", -1)
}

// P16.1: each two bytes compared, at all places.
func TestCompareBytes(t *testing.T) {
	for c := range 256 {
		for d := range 256 {
			a, b := one(c), one(d)
			want := compareOf(a, b)
			for _, x := range [][2]string{{a, b}, {"q" + a, "Q" + b}, {a + "z", b + "A"}, {"q" + a + "z", "q" + b + "z"}} {
				if x[0] == a+"z" && want == 0 {
					continue
				}
				if got := fold.Compare(x[0], x[1]); got != want {
					t.Fatalf("Compare(%q, %q) = %d; want %d", x[0], x[1], got, want)
				}
			}
		}
	}
}

// P16.2: the terms of questions without quotes.
func TestTerms(t *testing.T) {
	checkTerms(t, "")
	checkTerms(t, "a", "a")
	checkTerms(t, "ada", "ada")
	checkTerms(t, "ada hopper", "ada", "hopper")
	checkTerms(t, "b a b", "b", "a", "b")
	for n := range 40 {
		blanks := strings.Repeat(" ", n)
		checkTerms(t, blanks)
		checkTerms(t, blanks+"ada", "ada")
		checkTerms(t, "ada"+blanks, "ada")
		checkTerms(t, blanks+"ada"+blanks, "ada")
		checkTerms(t, blanks+"a "+blanks+"b"+blanks, "a", "b")
		checkTerms(t, "x "+blanks+"y "+blanks+" z", "x", "y", "z")
		long := strings.Repeat("a", n+1)
		checkTerms(t, long, long)
		checkTerms(t, long+" "+long, long, long)
	}
	// Terms stand as they are.
	checkTerms(t, "ADA Hopper gRACE", "ADA", "Hopper", "gRACE")
	checkTerms(t, "\u00c9T\u00c9 \u4e2d\u6587", "\u00c9T\u00c9", "\u4e2d\u6587")
	checkTerms(t, "\xff \x80\xfe", "\xff", "\x80\xfe")
	checkTerms(t, "\x00 \x00\x00", "\x00", "\x00\x00")
	checkTerms(t, "a\\ b 'c d' (e f) -g +h i,j;k", "a\\", "b", "'c", "d'", "(e", "f)", "-g", "+h", "i,j;k")
	// Other white space is none.
	for _, s := range []string{"\t", "\n", "\r\n", "\v", "\f", "\u00a0", "\u0085", "\u2003", "\u3000", "\xa0"} {
		checkTerms(t, s, s)
		checkTerms(t, "a"+s+"b", "a"+s+"b")
		checkTerms(t, s+"a"+s+" "+s, s+"a"+s, s)
	}
}

// P16.2: the terms of questions with quotes.
func TestQuotes(t *testing.T) {
	checkTerms(t, `"`)
	checkTerms(t, `""`)
	checkTerms(t, `"""`)
	checkTerms(t, `""""`)
	checkTerms(t, ` "" "" `)
	checkTerms(t, `"a"`, "a")
	checkTerms(t, `"a b"`, "a b")
	checkTerms(t, `"a b" c`, "a b", "c")
	checkTerms(t, `c "a b"`, "c", "a b")
	checkTerms(t, `"" x`, "x")
	checkTerms(t, `x ""`, "x")
	checkTerms(t, `""x`, "x")
	checkTerms(t, `x""`, "x")
	checkTerms(t, `x""y`, "x", "y")
	// In the midst of a word.
	checkTerms(t, `a"b c"d`, "a", "b c", "d")
	checkTerms(t, `a"b`, "a", "b")
	checkTerms(t, `a"b c`, "a", "b c")
	checkTerms(t, `a"b"c"d"e`, "a", "b", "c", "d", "e")
	checkTerms(t, `ada "grace hopper"x`, "ada", "grace hopper", "x")
	// Never closed.
	checkTerms(t, `"a`, "a")
	checkTerms(t, `"a b`, "a b")
	checkTerms(t, `"a b `, "a b ")
	checkTerms(t, `" a  b`, " a  b")
	checkTerms(t, `a "`, "a")
	checkTerms(t, `a"`, "a")
	checkTerms(t, `a " `, "a", " ")
	checkTerms(t, `"a" "`, "a")
	checkTerms(t, `"a" "b`, "a", "b")
	checkTerms(t, `"a""b`, "a", "b")
	// Blanks within.
	checkTerms(t, `" "`, " ")
	checkTerms(t, `"   "`, "   ")
	checkTerms(t, `" a "`, " a ")
	checkTerms(t, `" a " " b "`, " a ", " b ")
	checkTerms(t, `"a  b"`, "a  b")
	checkTerms(t, `  "  a"  `, "  a")
	// Side by side.
	checkTerms(t, `"a""b"`, "a", "b")
	checkTerms(t, `"a b""c d"`, "a b", "c d")
	checkTerms(t, `"a"b"c"`, "a", "b", "c")
	checkTerms(t, `"a" b "c"`, "a", "b", "c")
	checkTerms(t, `"a"""b"`, "a", "b")
	checkTerms(t, `"a" " "b"`, "a", " ", "b")
	// Nothing keeps a quote from closing.
	checkTerms(t, `"a\" b"`, `a\`, "b")
	checkTerms(t, `\"a b\"`, `\`, `a b\`)
	checkTerms(t, "'a \"b c\" d'", "'a", "b c", "d'")
	checkTerms(t, "\u201ca b\u201d", "\u201ca", "b\u201d")
	// As they stand.
	checkTerms(t, "\"Grace HOPPER\"\t\"\n\"", "Grace HOPPER", "\t", "\n")
	checkTerms(t, "\"\xff \x00\"\u00c9", "\xff \x00", "\u00c9")
}

// P16.2: each byte in questions: the blank and the quote alone end a term.
func TestTermBytes(t *testing.T) {
	for c := range 256 {
		s := one(c)
		switch s {
		case " ":
			checkTerms(t, "a b", "a", "b")
		case `"`:
			checkTerms(t, `a"b`, "a", "b")
		default:
			checkTerms(t, s, s)
			checkTerms(t, s+s, s+s)
			checkTerms(t, "a"+s+"b", "a"+s+"b")
			checkTerms(t, s+" "+s, s, s)
			checkTerms(t, s+`"`+s+" "+s+`"`+s, s, s+" "+s, s)
		}
		checkTerms(t, "longer than eight"+s+"x", termsOf("longer than eight"+s+"x")...)
	}
}

// P16.1, P16.2: all short texts.
func TestShort(t *testing.T) {
	eachText(`aB "`, 7, func(q string) { checkTerms(t, q, termsOf(q)...) })
	eachText("b\t\" \xff", 6, func(q string) { checkTerms(t, q, termsOf(q)...) })
	eachText("aAb", 5, func(s string) {
		eachText("aBb", 4, func(part string) {
			if got, want := fold.Has(s, part), hasOf(s, part); got != want {
				t.Fatalf("Has(%q, %q) = %t", s, part, got)
			}
			if got, want := fold.Compare(s, part), compareOf(s, part); got != want {
				t.Fatalf("Compare(%q, %q) = %d", s, part, got)
			}
		})
	})
	lists := [][]string{nil, {}, {""}, {"a"}, {"aB"}, {"B a", "b"}, {" ", "ab"}, {`"`, "A"}, {"BBB", "AAA", "a b"}}
	eachText(`aB "`, 5, func(q string) {
		for _, l := range lists {
			if got, want := fold.Match(q, l), matchOf(q, l); got != want {
				t.Fatalf("Match(%q, %q) = %t", q, l, got)
			}
		}
	})
}

// P16.2: questions without terms match, whatever the texts are.
func TestMatchNothing(t *testing.T) {
	for _, q := range []string{"", " ", "   ", `"`, `""`, ` "" `, `"" "`, `""""`} {
		checkMatch(t, true, q)
		checkMatch(t, true, q, "")
		checkMatch(t, true, q, "a")
		checkMatch(t, true, q, "", "a", `"`, " ")
		if !fold.Match(q, nil) || !fold.Match(q, []string{}) {
			t.Errorf("%q doesn't match without texts", q)
		}
	}
	for _, q := range []string{"a", " a ", "\t", "\x00", `" "`, `"a`, `" `} {
		checkMatch(t, false, q)
		checkMatch(t, false, q, "")
		checkMatch(t, false, q, "", "", "")
	}
}

// P16.2: each term in some one of the texts, each in its own.
func TestMatch(t *testing.T) {
	checkMatch(t, true, "ADA hop", "Grace Hopper", "Ada L")
	checkMatch(t, true, "a b", "xA", "bY")
	checkMatch(t, true, "a b", "ab")
	checkMatch(t, true, "a b", "ba")
	checkMatch(t, true, "ab ba", "aba")
	checkMatch(t, true, "a a a", "a")
	checkMatch(t, true, "a", "", "", "a", "")
	checkMatch(t, true, "one two three", "three", "two", "one")
	checkMatch(t, true, "one two three", "xx", "xtwoxonex", "yy", "threethree")
	checkMatch(t, true, "one one two", "two", "one")
	checkMatch(t, true, `"grace hopper"`, "Grace Hopper")
	checkMatch(t, true, `"e h" ada`, "Grace Hopper", "Ada")
	checkMatch(t, true, `" "`, "a", "a b")
	checkMatch(t, true, "\u00c9", "x\u00c9x")
	checkMatch(t, true, "\xff", "a\xffb")
	checkMatch(t, true, "x\ty", "X\tY")
	checkMatch(t, true, `x"y z`, "X", "Y Z")
	checkMatch(t, false, "a b", "A")
	checkMatch(t, false, "a b", "B")
	checkMatch(t, false, "a b", "a", "A", "c")
	checkMatch(t, false, "a b c", "a", "b")
	checkMatch(t, false, "a b c", "c", "b")
	checkMatch(t, false, "a b c", "c", "a")
	checkMatch(t, false, "ab", "a", "b")
	checkMatch(t, false, "ab", "a b", "ba")
	checkMatch(t, false, "one two three", "one two", "two thre", "hree")
	checkMatch(t, false, `"grace hopper"`, "Grace", "Hopper")
	checkMatch(t, false, `"grace hopper"`, "Hopper Grace", "Grace  Hopper", "GraceHopper")
	checkMatch(t, false, `"a "`, "a", " a", "")
	checkMatch(t, false, `" "`, "a", "", "b")
	checkMatch(t, false, "\u00e9", "\u00c9")
	checkMatch(t, false, "\u00e9", "e")
	checkMatch(t, false, "x\ty", "x", "y", "x y")
	checkMatch(t, false, "ada", "ad", "da", "a d a")
	// A part is asked of a text, not a text of a part.
	checkMatch(t, false, "hopper", "hop")
	checkMatch(t, false, "a", "b", "c")
}

// P16.1, P16.2: texts that are made by chance.
func TestChance(t *testing.T) {
	r := rand.New(rand.NewSource(162))
	parts := []string{"a", "A", "ab", "B", "Ada", "hop", "Z", "[", "z", " ", " ", " ", `"`, `"`, "\t", "\u00c9", "\u00e9", "\xff", "\x00"}
	some := func(most int) string {
		s := ""
		for range r.Intn(most) {
			s += parts[r.Intn(len(parts))]
		}
		return s
	}
	var had, matched, least [3]int
	for range 100000 {
		s, part, q := some(9), some(4), some(7)
		checkFold(t, s, foldOf(s))
		checkTerms(t, q, termsOf(q)...)
		if r.Intn(4) == 0 {
			part = turn(s[:r.Intn(len(s)+1)])
		}
		has, want := fold.Has(s, part), compareOf(s, part)
		if has != hasOf(s, part) {
			t.Fatalf("Has(%q, %q) = %t", s, part, has)
		}
		had[number(has)]++
		if got := fold.Compare(s, part); got != want {
			t.Fatalf("Compare(%q, %q) = %d; want %d", s, part, got, want)
		}
		least[want+1]++
		var texts []string
		for range r.Intn(4) {
			texts = append(texts, some(7))
		}
		match := fold.Match(q, texts)
		if match != matchOf(q, texts) {
			t.Fatalf("Match(%q, %q) = %t", q, texts, match)
		}
		matched[number(match)]++
	}
	if min(had[0], had[1], matched[0], matched[1], least[0], least[1], least[2]) < 1000 {
		t.Errorf("has: %v, match: %v, compare: %v", had, matched, least)
	}
}

// number is 1 for true.
func number(is bool) int {
	if is {
		return 1
	}
	return 0
}

// samples are questions and texts of many kinds.
func samples() []string {
	return []string{"", " ", "a", "ada", "Ada Lovelace", `ada "grace hopper"x`, `"A b`, "a a a", "\u00c9\xff\x00", ` "" B`, "\tX"}
}

// P16.3: what is handed in stays, its spare room too; what is answered may be
// written over; asked again, the calls tell the same.
func TestMemory(t *testing.T) {
	for _, q := range samples() {
		texts := make([]string, 0, 20)
		texts = append(texts, samples()...)
		_ = append(texts, "SPARE", "ada", "x")
		room := texts[:cap(texts)]
		before := slices.Clone(room)
		want, isMatch := termsOf(q), matchOf(q, texts)
		for range 2 {
			if got := fold.Match(q, texts); got != isMatch {
				t.Fatalf("Match(%q, ..) = %t", q, got)
			}
			if got := fold.Match(q, texts[:2]); got != matchOf(q, texts[:2]) {
				t.Fatalf("Match(%q, ..) = %t, of two texts", q, got)
			}
			if !slices.Equal(room, before) {
				t.Fatalf("Match(%q, ..) changed the texts: %q", q, room)
			}
			checkTerms(t, q, want...)
			terms := fold.Terms(q)
			for i := range terms[:cap(terms)] {
				terms[:cap(terms)][i] = "over"
			}
			checkTerms(t, q, want...)
		}
		for i := range room {
			room[i] = "over"
		}
		if got := fold.Match(q, texts); got != matchOf(q, texts) {
			t.Fatalf("Match(%q, ..) = %t, of other texts", q, got)
		}
	}
}

// P16.3: two answers share no list.
func TestTwoAnswers(t *testing.T) {
	for _, q := range []string{"a b", `"a b" c`, "a a a a a"} {
		first, second := fold.Terms(q), fold.Terms(q)
		_ = append(first, "more")
		for i := range first[:cap(first)] {
			first[:cap(first)][i] = "over"
		}
		if want := termsOf(q); !slices.Equal(second, want) {
			t.Errorf("the second answer to %q is %q", q, second)
		}
	}
}

// P16.3: what is answered is no piece of what was handed in.
func TestNewTexts(t *testing.T) {
	for _, s := range samples() {
		s = strings.Clone(s)
		from := uintptr(unsafe.Pointer(unsafe.StringData(s)))
		for _, x := range append(fold.Terms(s), fold.Fold(s)) {
			if at := uintptr(unsafe.Pointer(unsafe.StringData(x))); x != "" && at >= from && at < from+uintptr(len(s)) {
				t.Errorf("%q is a piece of %q", x, s)
			}
		}
	}
}

// P1: all calls end, and none panics, at texts that are long and lists that
// are.
func TestLong(t *testing.T) {
	const n = 1 << 18
	for _, s := range []string{"a", "A", " ", `"`, `" `, `a"`, "a ", "\x00", "\xff", "\u00c9"} {
		long := strings.Repeat(s, n)
		checkFold(t, long, strings.Repeat(foldOf(s), n))
		if !fold.Has(long, raise(long)) || fold.Has(long, long+"x") || fold.Has(long, long[:len(long)/2]+"x") {
			t.Errorf("Has of %d times %q", n, s)
		}
		if fold.Compare(long, raise(long)) != 0 || fold.Compare(long, long+"x") != -1 || fold.Compare(long[:n-1]+"x", long[:n-1]) != 1 {
			t.Errorf("Compare of %d times %q", n, s)
		}
	}
	checkTerms(t, strings.Repeat(" ", n))
	checkTerms(t, strings.Repeat(`"`, n))
	checkTerms(t, strings.Repeat("a", n), strings.Repeat("a", n))
	checkTerms(t, `"`+strings.Repeat(" ", n), strings.Repeat(" ", n))
	for _, q := range []string{"a ", ` "a"`, `a""`, `"a"`} {
		checkTerms(t, strings.Repeat(q, n), slices.Repeat([]string{"a"}, n)...)
	}
	texts := slices.Repeat([]string{"abc", "", "\xff"}, n)
	if !fold.Match("C AB", texts) || fold.Match("AB x", texts) || !fold.Match(strings.Repeat(`B"" `, n)+"a", texts[:3]) {
		t.Error("Match of many texts, or of many terms")
	}
	if !fold.Match(strings.Repeat("a", n), []string{"", strings.Repeat("A", n)}) {
		t.Error("Match of a long term")
	}
}

// The section 'Examples'.
func TestExamples(t *testing.T) {
	checkTerms(t, `ada "grace hopper"x`, "ada", "grace hopper", "x")
	if !fold.Match("ADA hop", []string{"Grace Hopper", "Ada L"}) {
		t.Error(`Match("ADA hop", ..)`)
	}
	if got := fold.Compare("B", "a"); got != 1 {
		t.Errorf(`Compare("B", "a") = %d`, got)
	}
}
