package chars_test

import (
	"fmt"
	"math"
	"strconv"
	"strings"
	"testing"
	"unicode/utf16"
	"unicode/utf8"

	"cardbox/api"
	"cardbox/chars"
)

// quotes are texts, each with what it is quoted.
var quotes = []struct{ text, quote string }{
	{"", `""`},
	{"a", `"a"`},
	{"Ada Lovelace", `"Ada Lovelace"`},
	{"a\"\n", `"a\"\n"`},
	{`"`, `"\""`},
	{`\`, `"\\"`},
	{`\n`, `"\\n"`},
	{`\u0041`, `"\\u0041"`},
	{`""`, `"\"\""`},
	{"\b\t\n\f\r", `"\b\t\n\f\r"`},
	{"\x00", `"\u0000"`},
	{"\x01\x07", `"\u0001\u0007"`},
	{"\x0b", `"\u000b"`},
	{"\x0e\x0f\x10", `"\u000e\u000f\u0010"`},
	{"\x1a\x1b\x1f", `"\u001a\u001b\u001f"`},
	{"\x00a", `"\u0000a"`},
	{"\x20\x7f", "\"\x20\x7f\""},
	{"/'<>&", `"/'<>&"`},
	{"\xc2\x80", "\"\xc2\x80\""},
	{"\xc3\xa9", "\"\xc3\xa9\""},
	{"\xe2\x80\xa8\xe2\x80\xa9", "\"\xe2\x80\xa8\xe2\x80\xa9\""},
	{"\xef\xbb\xbf\xef\xbf\xbd", "\"\xef\xbb\xbf\xef\xbf\xbd\""},
	{"\xf0\x9f\x98\x80\xf4\x8f\xbf\xbf", "\"\xf0\x9f\x98\x80\xf4\x8f\xbf\xbf\""},
}

// wrong are texts whose bytes aren't right.
var wrong = []string{
	"\x80", "\xbf", "\xff", "\xc3", "\xe2\x82", "\xf0\x9f\x98",
	"\xc0\x80", "\xc1\xbf", "\xe0\x9f\xbf", "\xf0\x8f\xbf\xbf",
	"\xed\xa0\x80", "\xed\xbf\xbf", "\xed\xa0\xbd\xed\xb8\x80",
	"\xf4\x90\x80\x80", "\xc3\x28",
}

// letters are what stands behind a \, and the points that are meant.
var letters = map[byte]string{
	'"': "\"", '\\': "\\", '/': "/", 'b': "\x08", 'f': "\x0c",
	'n': "\x0a", 'r': "\x0d", 't': "\x09",
}

// unitOf tells the number of a \u and four digits that s begins with.
func unitOf(s string) (rune, bool) {
	if len(s) < 6 || s[:2] != `\u` {
		return 0, false
	}
	n, err := strconv.ParseUint(s[2:6], 16, 16)
	return rune(n), err == nil
}

// escapeOf tells what an escape that s begins with ought to stand for, and how
// many bytes it has; 0, if there is none.
func escapeOf(s string) (string, int) {
	if len(s) > 1 {
		if text, ok := letters[s[1]]; ok {
			return text, 2
		}
	}
	r, ok := unitOf(s)
	if !ok {
		return "", 0
	}
	if !utf16.IsSurrogate(r) {
		return string(r), 6
	}
	if low, ok := unitOf(s[6:]); ok {
		if both := utf16.DecodeRune(r, low); both != utf8.RuneError {
			return string(both), 12
		}
	}
	return "", 0
}

// readOf is what Read ought to tell, by the library.
func readOf(s string, at int) (string, int, api.Errno) {
	if at < 0 || at >= len(s) || s[at] != '"' {
		return "", at, api.ErrEscape
	}
	text := ""
	for i := at + 1; i < len(s); {
		if s[i] == '"' {
			return text, i + 1, api.OK
		}
		if s[i] == '\\' {
			piece, n := escapeOf(s[i:])
			if n == 0 {
				return "", i, api.ErrEscape
			}
			text, i = text+piece, i+n
			continue
		}
		r, n := utf8.DecodeRuneInString(s[i:])
		if r == utf8.RuneError && n == 1 {
			return "", i, api.ErrUtf
		}
		if r < 0x20 {
			return "", i, api.ErrEscape
		}
		text, i = text+s[i:i+n], i+n
	}
	return "", len(s), api.ErrEscape
}

// checkRead holds Read against what is wanted.
func checkRead(t *testing.T, s string, at int, text string, place int, e api.Errno) {
	t.Helper()
	if gotText, gotPlace, got := chars.Read(s, at); gotText != text || gotPlace != place || got != e {
		t.Fatalf("Read(%q, %d) = %q, %d, %d; want %q, %d, %d", s, at, gotText, gotPlace, got, text, place, e)
	}
}

// checkFault holds Read against a fault, with more ahead and behind as well.
func checkFault(t *testing.T, s string, place int, e api.Errno) {
	t.Helper()
	checkRead(t, s, 0, "", place, e)
	for _, ahead := range []string{"x", "\"", "\\", "\xff", "[\"a\", "} {
		checkRead(t, ahead+s, len(ahead), "", len(ahead)+place, e)
	}
}

// checkText holds Read against the library, and quotes what it answers.
func checkText(t *testing.T, s string, at int) {
	t.Helper()
	text, place, e := readOf(s, at)
	checkRead(t, s, at, text, place, e)
	if e == api.OK {
		checkBack(t, text)
	}
}

// checkBack quotes a text and reads it back, with more ahead and behind too.
func checkBack(t *testing.T, text string) {
	t.Helper()
	quote, ok := chars.Quote(text)
	if !ok {
		t.Fatalf("Quote(%q): false", text)
	}
	checkRead(t, quote, 0, text, len(quote), api.OK)
	checkRead(t, "\\\""+quote+"\"\xff", 2, text, 2+len(quote), api.OK)
}

// eachText calls f with all texts of n of the pieces.
func eachText(pieces []string, n int, f func(string)) {
	if n == 0 {
		f("")
		return
	}
	eachText(pieces, n-1, func(s string) {
		for _, p := range pieces {
			f(s + p)
		}
	})
}

// P2.1: texts that can be quoted.
func TestQuote(t *testing.T) {
	for _, x := range quotes {
		if q, ok := chars.Quote(x.text); !ok || q != x.quote {
			t.Errorf("Quote(%q) = %q, %t; want %q", x.text, q, ok, x.quote)
		}
	}
}

// P2.1: each point.
func TestQuoteOfAllPoints(t *testing.T) {
	short := map[rune]string{'"': `\"`, '\\': `\\`, 8: `\b`, 9: `\t`, 10: `\n`, 12: `\f`, 13: `\r`}
	for r := rune(0); r <= utf8.MaxRune; r++ {
		if !utf8.ValidRune(r) {
			continue
		}
		want, ok := short[r]
		if !ok {
			want = string(r)
			if r < 0x20 {
				want = fmt.Sprintf(`\u%04x`, r)
			}
		}
		if q, ok := chars.Quote("a" + string(r) + "b"); !ok || q != `"a`+want+`b"` {
			t.Fatalf("%x: %q, %t; want %q", r, q, ok, want)
		}
	}
}

// P2.1: bytes that aren't right, wherever they stand.
func TestQuoteOfWrongBytes(t *testing.T) {
	for _, s := range wrong {
		for _, x := range []string{s, "a" + s, s + "z", "\n" + s + "\n", "\xc3\xa9" + s} {
			if q, ok := chars.Quote(x); ok || q != "" {
				t.Errorf("Quote(%q) = %q, %t", x, q, ok)
			}
		}
	}
}

// P2.2: what is quoted, and what else stands for a text.
func TestRead(t *testing.T) {
	for _, x := range quotes {
		checkRead(t, x.quote, 0, x.text, len(x.quote), api.OK)
	}
	for _, x := range []struct {
		s     string
		at    int
		text  string
		place int
	}{
		{`x"\u00e9"y`, 1, "\u00e9", 9},
		{`"\/\b\f\n\r\t\"\\"`, 0, "/\b\f\n\r\t\"\\", 18},
		{`"/"`, 0, "/", 3},
		{`"\u0041\u00E9\u00e9\uAbCd\uaBcD"`, 0, "A\u00e9\u00e9\uabcd\uabcd", 32},
		{`"\u0000\u001f\u0022\u005c"`, 0, "\x00\x1f\"\\", 26},
		{`"\ud83d\ude00"`, 0, "\U0001f600", 14},
		{`"\uD83D\uDE00\uD83d\uDe00"`, 0, "\U0001f600\U0001f600", 26},
		{`"\ud800\udc00\ud800\udfff\udbff\udc00\udbff\udfff"`, 0, "\U00010000\U000103ff\U0010fc00\U0010ffff", 50},
		{`"\ud7ff\ue000\uffff"`, 0, "\ud7ff\ue000\uffff", 20},
		{`"\\ud83d"`, 0, `\ud83d`, 9},
		{`"\u00411"`, 0, "A1", 9},
		{"\"\x20\x7f\xc2\x80\xf4\x8f\xbf\xbf\"", 0, "\x20\x7f\xc2\x80\xf4\x8f\xbf\xbf", 10},
		{`"a""b"`, 0, "a", 3},
		{`"a""b"`, 2, "", 4},
		{`"a""b"`, 3, "b", 6},
		{"\"a\"\xff", 0, "a", 3},
		{`"a"\`, 0, "a", 3},
		{`\"a"`, 1, "a", 4},
		{`"\""`, 2, "", 4},
	} {
		checkRead(t, x.s, x.at, x.text, x.place, api.OK)
	}
}

// P2.2: where no quote begins, and places without the text.
func TestReadWithoutQuote(t *testing.T) {
	for _, s := range []string{"", "a", "a\"", "'a'", "\\\"a\"", "\xff", "\n", "\x00\"", "\xc3\xa9\"", " \"a\""} {
		checkRead(t, s, 0, "", 0, api.ErrEscape)
	}
	for _, s := range []string{"", `"`, `""`, `"abc"`, "\xff"} {
		for _, at := range []int{-1, -2, math.MinInt, math.MinInt + 1, len(s), len(s) + 1, math.MaxInt - 1, math.MaxInt} {
			checkRead(t, s, at, "", at, api.ErrEscape)
		}
	}
	for _, at := range []int{1, 2, 3} {
		checkRead(t, `"abc"`, at, "", at, api.ErrEscape)
	}
}

// P2.2: faults, each with its place.
func TestReadOfFaults(t *testing.T) {
	for _, x := range []struct {
		s     string
		place int
		e     api.Errno
	}{
		// It ends ahead of the closing quote.
		{`"`, 1, api.ErrEscape},
		{`"a`, 2, api.ErrEscape},
		{`"a\"`, 4, api.ErrEscape},
		{`"a\n`, 4, api.ErrEscape},
		{`"a\u0041`, 8, api.ErrEscape},
		{`"\ud83d\ude00`, 13, api.ErrEscape},
		{"\"\xc3\xa9", 3, api.ErrEscape},
		// Escapes that the text's end cuts off.
		{`"\`, 1, api.ErrEscape},
		{`"ab\`, 3, api.ErrEscape},
		{`"\\\`, 3, api.ErrEscape},
		{`"\u`, 1, api.ErrEscape},
		{`"ab\u0`, 3, api.ErrEscape},
		{`"ab\u00`, 3, api.ErrEscape},
		{`"ab\u00e`, 3, api.ErrEscape},
		// Escapes of none of the forms.
		{`"\x"`, 1, api.ErrEscape},
		{`"a\U0041"`, 2, api.ErrEscape},
		{`"\B"`, 1, api.ErrEscape},
		{`"\'"`, 1, api.ErrEscape},
		{`"\0"`, 1, api.ErrEscape},
		{"\"\\\n\"", 1, api.ErrEscape},
		{"\"\\\xff\"", 1, api.ErrEscape},
		{`"\u"`, 1, api.ErrEscape},
		{`"\u00e"`, 1, api.ErrEscape},
		{`"\u00eg"`, 1, api.ErrEscape},
		{`"\ug000"`, 1, api.ErrEscape},
		{`"\u+041"`, 1, api.ErrEscape},
		{`"\u 041"`, 1, api.ErrEscape},
		{`"\u{41}"`, 1, api.ErrEscape},
		{"\"\\u004\xff\"", 1, api.ErrEscape},
		{`"\u00\u0041"`, 1, api.ErrEscape},
		// Halves that stand alone, twice, or in the wrong order.
		{`"\ud83d"`, 1, api.ErrEscape},
		{`"\ud83d`, 1, api.ErrEscape},
		{`"a\ud800z"`, 2, api.ErrEscape},
		{`"a\udbffz"`, 2, api.ErrEscape},
		{`"a\udc00z"`, 2, api.ErrEscape},
		{`"a\uDFFFz"`, 2, api.ErrEscape},
		{`"\ud83d\ud83d"`, 1, api.ErrEscape},
		{`"\ud83d\ud83d\ude00"`, 1, api.ErrEscape},
		{`"\ude00\ud83d"`, 1, api.ErrEscape},
		{`"\ude00\ude00"`, 1, api.ErrEscape},
		{`"\ud83d\ude00\ude00"`, 13, api.ErrEscape},
		{`"\ud83d\ude00\ud83d"`, 13, api.ErrEscape},
		{`"\ud83d \ude00"`, 1, api.ErrEscape},
		{`"\ud83d\n\ude00"`, 1, api.ErrEscape},
		{`"\ud83d\u0041"`, 1, api.ErrEscape},
		{`"\ud83d\ue000"`, 1, api.ErrEscape},
		{`"\ud83d\udbff"`, 1, api.ErrEscape},
		{`"a\ud83dde00"`, 2, api.ErrEscape},
		{"\"a\\ud83d\xf0\x9f\x98\x80\"", 2, api.ErrEscape},
		// Halves with another fault behind them: that they stand alone is first.
		{`"\ud83d\`, 1, api.ErrEscape},
		{`"\ud83d\x"`, 1, api.ErrEscape},
		{`"\ud83d\u`, 1, api.ErrEscape},
		{`"\ud83d\ude0`, 1, api.ErrEscape},
		{`"\ud83d\ude0g"`, 1, api.ErrEscape},
		{"\"\\ud83d\n\"", 1, api.ErrEscape},
		{"\"\\ud83d\xff\"", 1, api.ErrEscape},
		{"\"\\ud83d\xed\xb8\x80\"", 1, api.ErrEscape},
		// Points below 20.
		{"\"\x00\"", 1, api.ErrEscape},
		{"\"a\n\"", 2, api.ErrEscape},
		{"\"\x1f", 1, api.ErrEscape},
		// The first of several.
		{"\"a\xff\n\\x\"", 2, api.ErrUtf},
		{"\"a\n\xff\\x\"", 2, api.ErrEscape},
		{"\"a\\x\xff\n\"", 2, api.ErrEscape},
		{"\"\\\"\xff", 3, api.ErrUtf},
		{"\"\\ude00\xff", 1, api.ErrEscape},
		{"\"\xff\\ude00\"", 1, api.ErrUtf},
	} {
		checkFault(t, x.s, x.place, x.e)
	}
}

// P2.2: bytes at which no point stands, and all points below 20.
func TestReadOfWrongBytes(t *testing.T) {
	for _, s := range wrong {
		for _, ahead := range []string{"", "a", "\xc3\xa9", `\n`, `\u00e9`, `\ud83d\ude00`} {
			checkFault(t, `"`+ahead+s+`"`, 1+len(ahead), api.ErrUtf)
			checkFault(t, `"`+ahead+s, 1+len(ahead), api.ErrUtf)
		}
	}
	for c := range byte(0x20) {
		checkFault(t, `"ab`+string(rune(c))+`"`, 3, api.ErrEscape)
		checkFault(t, string([]byte{'"', c}), 1, api.ErrEscape)
	}
	for c := range 256 {
		checkText(t, string([]byte{'"', byte(c), '"'}), 0)
	}
}

// P2.2: each byte behind a \, and in the place of each digit.
func TestReadOfAllEscapes(t *testing.T) {
	for c := range 256 {
		b := string([]byte{byte(c)})
		if text, ok := letters[byte(c)]; ok {
			checkRead(t, `"a\`+b+`z"`, 0, "a"+text+"z", 6, api.OK)
		} else {
			checkFault(t, `"a\`+b+`z"`, 2, api.ErrEscape)
		}
		for i := range 4 {
			four := "1111"[:i] + b + "1111"[i+1:]
			checkText(t, `"a\u`+four+`"`, 0)
			if !strings.Contains("0123456789abcdefABCDEF", b) {
				checkFault(t, `"a\u`+four+`"`, 2, api.ErrEscape)
			}
		}
	}
}

// P2.2: all four digits, of both letters' cases.
func TestReadOfAllUnits(t *testing.T) {
	for n := range rune(0x10000) {
		for _, form := range []string{`"\u%04x"`, `"\u%04X"`} {
			s := fmt.Sprintf(form, n)
			if utf16.IsSurrogate(n) {
				checkRead(t, s, 0, "", 1, api.ErrEscape)
			} else {
				checkRead(t, s, 0, string(n), 8, api.OK)
			}
		}
	}
}

// P2.2: all pairs of halves, and the edges in every order.
func TestReadOfAllPairs(t *testing.T) {
	for r := rune(0x10000); r <= utf8.MaxRune; r++ {
		upper, lower := utf16.EncodeRune(r)
		s := `"\u` + strconv.FormatInt(int64(upper), 16) + `\u` + strconv.FormatInt(int64(lower), 16) + `"`
		checkRead(t, s, 0, string(r), 14, api.OK)
	}
	edges := []rune{0, 0x5c, 0xd7ff, 0xd800, 0xd801, 0xdbfe, 0xdbff, 0xdc00, 0xdc01, 0xdffe, 0xdfff, 0xe000, 0xffff}
	for _, a := range edges {
		for _, b := range edges {
			for _, c := range edges {
				checkText(t, fmt.Sprintf(`"\u%04x\u%04X\u%04x"`, a, b, c), 0)
			}
		}
	}
}

// P2.2: a right quote that ends too early, at each byte.
func TestReadCutOff(t *testing.T) {
	s := `"a\n\u00e9` + "\xc3\xa9" + `\ud83d\ude00` + "\xf0\x9f\x98\x80" + `\\\""`
	checkRead(t, s, 0, "a\n\u00e9\u00e9\U0001f600\U0001f600\\\"", len(s), api.OK)
	for n := range len(s) {
		checkText(t, s[:n], 0)
		if _, _, e := chars.Read(s[:n], 0); e == api.OK {
			t.Errorf("%q: no fault", s[:n])
		}
	}
}

// P2.2, P2.3 and P1: all texts of some pieces, from all places.
func TestReadOfAllTexts(t *testing.T) {
	pieces := []string{
		`"`, `\`, `/`, "u", "a", "\n", "\x1f", " ", "\x7f", "\xc3\xa9", "\xe9",
		`\u`, `00e9`, `\u00E9`, `\ud83d`, `\uDE00`, `\ude0`, "\xed\xa0\x80",
	}
	for n := range 5 {
		eachText(pieces, n, func(s string) { checkText(t, `"`+s, 0) })
	}
	for n := range 4 {
		eachText(pieces, n, func(s string) {
			for at := -1; at <= len(s)+1; at++ {
				checkText(t, s, at)
			}
		})
	}
}

// P2.3: there and back, of all points at once and of pairs of some.
func TestThereAndBack(t *testing.T) {
	var all strings.Builder
	for r := rune(0); r <= utf8.MaxRune; r++ {
		if utf8.ValidRune(r) {
			all.WriteRune(r)
		}
	}
	checkBack(t, all.String())
	for _, x := range quotes {
		for _, y := range quotes {
			checkBack(t, x.text+y.text)
		}
	}
	for a := range rune(0x100) {
		for b := range rune(0x100) {
			checkBack(t, string(a)+string(b))
		}
	}
}
