package scan_test

import (
	"regexp"
	"slices"
	"strings"
	"testing"
	"unsafe"

	"cardbox/api"
	"cardbox/chars"
	"cardbox/nums"
	"cardbox/scan"
)

// piece is what is written, and the token that it is.
type piece struct {
	written string
	token   api.Token
}

// marks are all marks.
var marks = []piece{
	{"{", api.Token{Kind: api.TokMark, S: "{"}}, {"}", api.Token{Kind: api.TokMark, S: "}"}},
	{"[", api.Token{Kind: api.TokMark, S: "["}}, {"]", api.Token{Kind: api.TokMark, S: "]"}},
	{":", api.Token{Kind: api.TokMark, S: ":"}}, {",", api.Token{Kind: api.TokMark, S: ","}},
}

// words are all words.
var words = []piece{
	{"true", api.Token{Kind: api.TokWord, S: "true"}},
	{"false", api.Token{Kind: api.TokWord, S: "false"}},
	{"null", api.Token{Kind: api.TokWord, S: "null"}},
}

// numbers are some numbers, of both signs, the least and the greatest.
var numbers = []piece{
	{"0", api.Token{Kind: api.TokNumber}}, {"-0", api.Token{Kind: api.TokNumber}},
	{"1", api.Token{Kind: api.TokNumber, N: 1}}, {"-1", api.Token{Kind: api.TokNumber, N: -1}},
	{"2", api.Token{Kind: api.TokNumber, N: 2}}, {"3", api.Token{Kind: api.TokNumber, N: 3}},
	{"4", api.Token{Kind: api.TokNumber, N: 4}}, {"5", api.Token{Kind: api.TokNumber, N: 5}},
	{"6", api.Token{Kind: api.TokNumber, N: 6}}, {"7", api.Token{Kind: api.TokNumber, N: 7}},
	{"8", api.Token{Kind: api.TokNumber, N: 8}}, {"9", api.Token{Kind: api.TokNumber, N: 9}},
	{"10", api.Token{Kind: api.TokNumber, N: 10}}, {"-4711", api.Token{Kind: api.TokNumber, N: -4711}},
	{"9007199254740991", api.Token{Kind: api.TokNumber, N: 9007199254740991}},
	{"-9007199254740991", api.Token{Kind: api.TokNumber, N: -9007199254740991}},
}

// texts are some texts, without escapes and with each of them, and with what
// would be other tokens without the quotes.
var texts = []piece{
	{`""`, api.Token{Kind: api.TokText}},
	{`"a"`, api.Token{Kind: api.TokText, S: "a"}},
	{`"name"`, api.Token{Kind: api.TokText, S: "name"}},
	{`" a b "`, api.Token{Kind: api.TokText, S: " a b "}},
	{`"\"\\\/\b\f\n\r\t"`, api.Token{Kind: api.TokText, S: "\"\\/\b\f\n\r\t"}},
	{`"x\n"`, api.Token{Kind: api.TokText, S: "x\n"}},
	{`"\\"`, api.Token{Kind: api.TokText, S: "\\"}},
	{`"\u0000"`, api.Token{Kind: api.TokText, S: "\x00"}},
	{`"\u00E9"`, api.Token{Kind: api.TokText, S: "\u00e9"}},
	{`"\ud83d\ude00"`, api.Token{Kind: api.TokText, S: "\U0001f600"}},
	{"\"\u00e9\u20ac\U0001f600\"", api.Token{Kind: api.TokText, S: "\u00e9\u20ac\U0001f600"}},
	{"\"\ufeff\x7f\"", api.Token{Kind: api.TokText, S: "\ufeff\x7f"}},
	{`"{}[]:,"`, api.Token{Kind: api.TokText, S: "{}[]:,"}},
	{`"true"`, api.Token{Kind: api.TokText, S: "true"}},
	{`"-1"`, api.Token{Kind: api.TokText, S: "-1"}},
	{`"1.5"`, api.Token{Kind: api.TokText, S: "1.5"}},
}

// pieces are all of these.
var pieces = slices.Concat(marks, words, numbers, texts)

// spaces are the four kinds of white space, and some of them in a row.
var spaces = []string{" ", "\t", "\n", "\r", "\r\n", "  ", "\n\n\t", " \t\n\r", "\r\r\n\n\t\t  "}

// fault is what is written and is no row of tokens: the place and the error of
// the first fault.
type fault struct {
	written string
	at      int
	e       api.Errno
}

// noTokens are faults of bytes at which nothing begins, and of what is no word.
var noTokens = []fault{
	{"x", 0, api.ErrToken}, {"a", 0, api.ErrToken}, {"T", 0, api.ErrToken}, {"_", 0, api.ErrToken},
	{"+1", 0, api.ErrToken}, {".5", 0, api.ErrToken}, {"'a'", 0, api.ErrToken}, {"`a`", 0, api.ErrToken},
	{"/", 0, api.ErrToken}, {"//", 0, api.ErrToken}, {"/* */", 0, api.ErrToken}, {"#", 0, api.ErrToken},
	{"(", 0, api.ErrToken}, {")", 0, api.ErrToken}, {"<", 0, api.ErrToken}, {";", 0, api.ErrToken},
	{"=", 0, api.ErrToken}, {"!", 0, api.ErrToken}, {"\\", 0, api.ErrToken}, {"\\\"", 0, api.ErrToken}, {"|", 0, api.ErrToken},
	{"\x00", 0, api.ErrToken}, {"\x08", 0, api.ErrToken}, {"\v", 0, api.ErrToken}, {"\f", 0, api.ErrToken},
	{"\x0e", 0, api.ErrToken}, {"\x1f", 0, api.ErrToken}, {"\x7f", 0, api.ErrToken}, {"\x85", 0, api.ErrToken},
	{"\xa0", 0, api.ErrToken}, {"\xff", 0, api.ErrToken}, {"\ufeff", 0, api.ErrToken}, {"\ufeff1", 0, api.ErrToken},
	{"\u00a0", 0, api.ErrToken}, {"\u2028", 0, api.ErrToken}, {"\u00e9", 0, api.ErrToken}, {"\uff11", 0, api.ErrToken},
	{"NaN", 0, api.ErrToken}, {"Infinity", 0, api.ErrToken}, {"undefined", 0, api.ErrToken},
	{"t", 0, api.ErrToken}, {"tr", 0, api.ErrToken}, {"tru", 0, api.ErrToken}, {"True", 0, api.ErrToken},
	{"TRUE", 0, api.ErrToken}, {"truE", 0, api.ErrToken}, {"t rue", 0, api.ErrToken}, {"trux", 0, api.ErrToken},
	{"f", 0, api.ErrToken}, {"fals", 0, api.ErrToken}, {"False", 0, api.ErrToken}, {"falsE", 0, api.ErrToken}, {"falze", 0, api.ErrToken},
	{"n", 0, api.ErrToken}, {"nul", 0, api.ErrToken}, {"nil", 0, api.ErrToken}, {"Null", 0, api.ErrToken}, {"nulL", 0, api.ErrToken},
	{"truex", 0, api.ErrToken}, {"nulls", 0, api.ErrToken}, {"falsea", 0, api.ErrToken}, {"true0", 0, api.ErrToken},
	{"null9", 0, api.ErrToken}, {"false_", 0, api.ErrToken}, {"trueA", 0, api.ErrToken}, {"nullZ", 0, api.ErrToken},
	{"truetrue", 0, api.ErrToken}, {"nullfalse", 0, api.ErrToken}, {"true_false", 0, api.ErrToken}, {"true1", 0, api.ErrToken},
}

// badNumbers are faults of numbers.
var badNumbers = []fault{
	{"-", 0, api.ErrNumber}, {"--1", 0, api.ErrNumber}, {"- 1", 0, api.ErrNumber}, {"-x", 0, api.ErrNumber}, {"-+1", 0, api.ErrNumber},
	{"-.5", 0, api.ErrNumber}, {"-\"\"", 0, api.ErrNumber}, {"-]", 0, api.ErrNumber}, {"-true", 0, api.ErrNumber},
	{"00", 0, api.ErrNumber}, {"01", 0, api.ErrNumber}, {"02", 0, api.ErrNumber}, {"-01", 0, api.ErrNumber}, {"0123", 0, api.ErrNumber},
	{"1.", 0, api.ErrNumber}, {"1.5", 0, api.ErrNumber}, {"0.0", 0, api.ErrNumber}, {"-0.5", 0, api.ErrNumber}, {"123.x", 0, api.ErrNumber},
	{"1e", 0, api.ErrNumber}, {"1e2", 0, api.ErrNumber}, {"1E2", 0, api.ErrNumber}, {"-12e-3", 0, api.ErrNumber}, {"0e0", 0, api.ErrNumber},
	{"9007199254740992", 0, api.ErrNumber}, {"-9007199254740992", 0, api.ErrNumber},
	{"9223372036854775807", 0, api.ErrNumber}, {"18446744073709551616", 0, api.ErrNumber}, {"99999999999999999999999", 0, api.ErrNumber},
}

// badTexts are faults of texts, at their own places.
var badTexts = []fault{
	{"\"a\x00\"", 2, api.ErrEscape}, {"\"\n\"", 1, api.ErrEscape}, {"\"abc\t\"", 4, api.ErrEscape}, {"\"\x1f\"", 1, api.ErrEscape},
	{`"\x"`, 1, api.ErrEscape}, {`"ab\q"`, 3, api.ErrEscape}, {`"\'"`, 1, api.ErrEscape}, {`"\U0041"`, 1, api.ErrEscape},
	{`"\u"`, 1, api.ErrEscape}, {`"a\u12"`, 2, api.ErrEscape}, {`"a\u123g"`, 2, api.ErrEscape},
	{`"\ud83d"`, 1, api.ErrEscape}, {`"a\ude00"`, 2, api.ErrEscape}, {`"\ud83dx"`, 1, api.ErrEscape},
	{"\"\xff\"", 1, api.ErrUtf}, {"\"ab\x80\"", 3, api.ErrUtf}, {"\"\xc3\"", 1, api.ErrUtf}, {"\"\xc0\x80\"", 1, api.ErrUtf},
	{"\"\u00e9\xed\xa0\x80\"", 3, api.ErrUtf}, {"\"\xf4\x90\x80\x80\"", 1, api.ErrUtf},
}

// openTexts are texts without an end: whatever is behind them is theirs.
var openTexts = []fault{
	{`"`, 1, api.ErrEscape}, {`"a`, 2, api.ErrEscape}, {`"abc, true`, 10, api.ErrEscape}, {`"\"`, 3, api.ErrEscape},
	{`"\`, 1, api.ErrEscape}, {`"a\u00e`, 2, api.ErrEscape}, {"\"\xe2\x82", 1, api.ErrUtf}, {`"\ud83d`, 1, api.ErrEscape},
}

// checkTokens holds Tokens against the tokens that are wanted.
func checkTokens(t *testing.T, s string, tokens []api.Token) {
	t.Helper()
	l, at, e := scan.Tokens(s)
	if !slices.Equal(l, tokens) || at != 0 || e != api.OK {
		t.Fatalf("Tokens(%.60q) = %.400v, %d, %d; want %.400v, 0, OK", s, l, at, e, tokens)
	}
}

// checkFault holds Tokens against the fault that is wanted.
func checkFault(t *testing.T, s string, place int, want api.Errno) {
	t.Helper()
	l, at, e := scan.Tokens(s)
	if len(l) != 0 || at != place || e != want {
		t.Fatalf("Tokens(%.60q) = %.400v, %d, %d; want none, %d, %d", s, l, at, e, place, want)
	}
}

// checkRow holds Tokens against pieces with something between them, ahead of
// them and behind them.
func checkRow(t *testing.T, ahead, between, behind string, row ...piece) {
	t.Helper()
	s, tokens := ahead, []api.Token(nil)
	for i, p := range row {
		if i > 0 {
			s += between
		}
		token := p.token
		token.At = len(s)
		tokens = append(tokens, token)
		s += p.written
	}
	checkTokens(t, s+behind, tokens)
}

// token is, for tests, whatever has no fault of a text or of a number.
var token = regexp.MustCompile(`^(?:([ \t\n\r])|([{}\[\]:,])|((?:true|false|null)\b)|(")|([-0-9]))`)

// tokensOf is what Tokens ought to tell, by the library and the layers below.
func tokensOf(s string) ([]api.Token, int, api.Errno) {
	var tokens []api.Token
	for at := 0; at < len(s); {
		m := token.FindStringSubmatch(latin(s[at:]))
		next, end, e := api.Token{At: at}, at, api.ErrToken
		switch {
		case m == nil:
		case m[1] != "":
			at++
			continue
		case m[2] != "":
			next.Kind, next.S, end, e = api.TokMark, m[2], at+1, api.OK
		case m[3] != "":
			next.Kind, next.S, end, e = api.TokWord, m[3], at+len(m[3]), api.OK
		case m[4] != "":
			next.Kind = api.TokText
			next.S, end, e = chars.Read(s, at)
		default:
			next.Kind = api.TokNumber
			next.N, end, e = nums.Read(s, at)
		}
		if e != api.OK {
			return nil, end, e
		}
		tokens = append(tokens, next)
		at = end
	}
	return tokens, 0, api.OK
}

// latin makes a point of each byte, for the library tells points apart.
func latin(s string) string {
	l := make([]rune, len(s))
	for i := range len(s) {
		l[i] = rune(s[i])
	}
	return string(l)
}

// checkText holds Tokens against tokensOf.
func checkText(t *testing.T, s string) {
	t.Helper()
	tokens, place, e := tokensOf(s)
	if e == api.OK {
		checkTokens(t, s, tokens)
	} else {
		checkFault(t, s, place, e)
	}
}

// eachText calls f with all texts of n pieces of those of from.
func eachText(from []string, n int, f func(string)) {
	if n == 0 {
		f("")
		return
	}
	eachText(from, n-1, func(s string) {
		for _, p := range from {
			f(s + p)
		}
	})
}

// P4.1: no bytes at all, and white space alone.
func TestWithoutTokens(t *testing.T) {
	checkTokens(t, "", nil)
	for _, a := range spaces {
		checkTokens(t, a, nil)
		for _, b := range spaces {
			checkTokens(t, a+b, nil)
		}
	}
}

// P4.1: each token alone, at the beginning and right at the end, and with all
// white space ahead of it and behind it.
func TestEachToken(t *testing.T) {
	for _, p := range pieces {
		checkRow(t, "", "", "", p)
		for _, a := range spaces {
			checkRow(t, a, "", "", p)
			checkRow(t, "", "", a, p)
			for _, b := range spaces {
				checkRow(t, a, "", b, p)
			}
		}
	}
}

// P4.1: tokens in a row with white space between them.
func TestTokensApart(t *testing.T) {
	for _, p := range pieces {
		for _, q := range pieces {
			for _, between := range spaces {
				checkRow(t, "", between, "", p, q)
			}
			for _, r := range pieces {
				checkRow(t, "\t", "\n", " ", p, q, r)
			}
		}
	}
}

// meld tells whether two pieces without white space between them are others
// than the two.
func meld(p, q piece) bool {
	first := q.written[0]
	isDigit := '0' <= first && first <= '9'
	switch p.token.Kind {
	case api.TokWord:
		return isDigit || q.token.Kind == api.TokWord
	case api.TokNumber:
		return isDigit
	}
	return false
}

// P4.1: tokens in a row with nothing between them.
func TestTokensTogether(t *testing.T) {
	for _, p := range pieces {
		for _, q := range pieces {
			if meld(p, q) {
				continue
			}
			checkRow(t, "", "", "", p, q)
			for _, r := range pieces {
				if !meld(q, r) {
					checkRow(t, " ", "", " ", p, q, r)
				}
			}
		}
	}
}

// P4.1: rows as they come.
func TestTokens(t *testing.T) {
	mark := func(s string, at int) api.Token { return api.Token{Kind: api.TokMark, S: s, At: at} }
	word := func(s string, at int) api.Token { return api.Token{Kind: api.TokWord, S: s, At: at} }
	text := func(s string, at int) api.Token { return api.Token{Kind: api.TokText, S: s, At: at} }
	number := func(n int64, at int) api.Token { return api.Token{Kind: api.TokNumber, N: n, At: at} }
	for _, x := range []struct {
		s      string
		tokens []api.Token
	}{
		{`{"a":-1}`, []api.Token{mark("{", 0), text("a", 1), mark(":", 4), number(-1, 5), mark("}", 7)}},
		{"[true , false,\tnull]\n", []api.Token{mark("[", 0), word("true", 1), mark(",", 6), word("false", 8), mark(",", 13), word("null", 15), mark("]", 19)}},
		{"{}", []api.Token{mark("{", 0), mark("}", 1)}},
		{"][}{,:", []api.Token{mark("]", 0), mark("[", 1), mark("}", 2), mark("{", 3), mark(",", 4), mark(":", 5)}},
		{"1-2", []api.Token{number(1, 0), number(-2, 1)}},
		{"1 2", []api.Token{number(1, 0), number(2, 2)}},
		{"12,3", []api.Token{number(12, 0), mark(",", 2), number(3, 3)}},
		{"0true", []api.Token{number(0, 0), word("true", 1)}},
		{"12null", []api.Token{number(12, 0), word("null", 2)}},
		{`1"a"2`, []api.Token{number(1, 0), text("a", 1), number(2, 4)}},
		{`"a""b"`, []api.Token{text("a", 0), text("b", 3)}},
		{`"a\u0062\"""b"`, []api.Token{text("ab\"", 0), text("b", 11)}},
		{"\"\u00e9\"1", []api.Token{text("\u00e9", 0), number(1, 4)}},
		{`true"a"`, []api.Token{word("true", 0), text("a", 4)}},
		{`"a"true`, []api.Token{text("a", 0), word("true", 3)}},
		{"true-1", []api.Token{word("true", 0), number(-1, 4)}},
		{"null:null", []api.Token{word("null", 0), mark(":", 4), word("null", 5)}},
		{"false\rfalse", []api.Token{word("false", 0), word("false", 6)}},
	} {
		checkTokens(t, x.s, x.tokens)
	}
}

// P4.1: each byte right behind a word: a letter, a digit and _ are the word's.
func TestBehindWords(t *testing.T) {
	const more = "abcdefghijklmnopqrstuvwxyzABCDEFGHIJKLMNOPQRSTUVWXYZ0123456789_"
	for _, p := range words {
		for c := range 256 {
			b := string([]byte{byte(c)})
			s, end := p.written+b, len(p.written)
			switch {
			case strings.Contains(more, b):
				checkFault(t, s, 0, api.ErrToken)
				checkFault(t, "[1,"+s+"]", 3, api.ErrToken)
			case strings.Contains(" \t\n\r", b):
				checkTokens(t, s, []api.Token{p.token})
			case strings.Contains("{}[]:,", b):
				checkTokens(t, s, []api.Token{p.token, {Kind: api.TokMark, S: b, At: end}})
			case b == "-":
				checkFault(t, s, end, api.ErrNumber)
			case b == `"`:
				checkFault(t, s, end+1, api.ErrEscape)
			default:
				checkFault(t, s, end, api.ErrToken)
			}
		}
	}
}

// P4.1: each byte alone, ahead of a token and behind tokens.
func TestAllBytes(t *testing.T) {
	for c := range 256 {
		b := string([]byte{byte(c)})
		for _, s := range []string{
			b, b + b, b + "1", b + "true", b + `"a"`, b + "{", "{" + b, "1" + b, "-" + b, "0" + b + "0", "12" + b + "34", `"a"` + b, `"` + b + `"`, `"a` + b,
			"tru" + b, "fals" + b, "nul" + b, "t" + b + "ue", " " + b + " ", "true" + b + "null", "\t[1," + b + "]",
		} {
			checkText(t, s)
		}
	}
}

// P4.1: where no token begins, and what is no word.
func TestFaultsOfTokens(t *testing.T) {
	for _, x := range noTokens {
		checkFault(t, x.written, x.at, x.e)
		checkFault(t, x.written+" ", x.at, x.e)
		checkFault(t, x.written+",1", x.at, x.e)
	}
	checkFault(t, "12x", 2, api.ErrToken)
	checkFault(t, "0x10", 1, api.ErrToken)
	checkFault(t, "1_000", 1, api.ErrToken)
	checkFault(t, "1+1", 1, api.ErrToken)
	checkFault(t, "9007199254740991f", 16, api.ErrToken)
	checkFault(t, "tru e", 0, api.ErrToken)
	checkFault(t, "true\u00e9", 4, api.ErrToken)
	checkFault(t, "true\x00", 4, api.ErrToken)
	checkFault(t, `"a"b`, 3, api.ErrToken)
	checkFault(t, " 'a'", 1, api.ErrToken)
	checkFault(t, "[\v]", 1, api.ErrToken)
}

// P4.1: faults of numbers, at their places.
func TestFaultsOfNumbers(t *testing.T) {
	for _, x := range badNumbers {
		checkFault(t, x.written, x.at, x.e)
		checkFault(t, x.written+" ", x.at, x.e)
		checkFault(t, x.written+"]", x.at, x.e)
	}
	checkFault(t, "[1.5]", 1, api.ErrNumber)
	checkFault(t, "[1,02]", 3, api.ErrNumber)
	checkFault(t, "1-", 1, api.ErrNumber)
	checkFault(t, "1-1.", 1, api.ErrNumber)
}

// P4.1: faults of texts, at their places.
func TestFaultsOfTexts(t *testing.T) {
	for _, x := range badTexts {
		checkFault(t, x.written, x.at, x.e)
		checkFault(t, x.written+" ", x.at, x.e)
		checkFault(t, x.written+":1", x.at, x.e)
	}
	for _, x := range openTexts {
		checkFault(t, x.written, x.at, x.e)
	}
	checkFault(t, `"a" "b`, 6, api.ErrEscape)
	checkFault(t, `"a"""""b`, 7, api.ErrToken)
	checkFault(t, `"a""""b`, 7, api.ErrEscape)
}

// P4.1: faults behind right tokens, whatever these are.
func TestFaultsBehindTokens(t *testing.T) {
	for _, x := range slices.Concat(noTokens, badNumbers, badTexts, openTexts) {
		for _, p := range pieces {
			for _, between := range spaces {
				n := len(p.written) + len(between)
				checkFault(t, p.written+between+x.written, n+x.at, x.e)
				checkFault(t, between+p.written+"\n"+p.written+" "+x.written, n+len(p.written)+2+x.at, x.e)
			}
		}
		for _, p := range slices.Concat(marks, texts) {
			checkFault(t, p.written+x.written, len(p.written)+x.at, x.e)
		}
	}
}

// P4.1: of two faults the first one is told.
func TestFirstFault(t *testing.T) {
	firsts := slices.Concat(noTokens, badNumbers, badTexts)
	for _, x := range firsts {
		for _, y := range slices.Concat(firsts, openTexts) {
			for _, between := range []string{" ", ",", "\n[", " true "} {
				checkFault(t, x.written+between+y.written, x.at, x.e)
				checkFault(t, "[1,"+x.written+between+y.written, 3+x.at, x.e)
			}
		}
	}
}

// P4.1: MaxBytes bytes are scanned, whatever they are, and with a byte more
// nothing else is told, whatever stands there.
func TestLong(t *testing.T) {
	const most = api.MaxBytes
	checkTokens(t, strings.Repeat(" ", most), nil)
	checkTokens(t, strings.Repeat("\n", most-4)+"null", []api.Token{{Kind: api.TokWord, S: "null", At: most - 4}})
	checkTokens(t, `"`+strings.Repeat("a", most-2)+`"`, []api.Token{{Kind: api.TokText, S: strings.Repeat("a", most-2)}})
	open := make([]api.Token, most)
	for i := range open {
		open[i] = api.Token{Kind: api.TokMark, S: "[", At: i}
	}
	checkTokens(t, strings.Repeat("[", most), open)
	checkFault(t, strings.Repeat("7", most), 0, api.ErrNumber)
	checkFault(t, strings.Repeat("x", most), 0, api.ErrToken)
	checkFault(t, strings.Repeat(" ", most-1)+"x", most-1, api.ErrToken)
	checkFault(t, strings.Repeat("[", most-1)+"-", most-1, api.ErrNumber)
	checkFault(t, `"`+strings.Repeat("a", most-1), most, api.ErrEscape)
	checkFault(t, strings.Repeat(" ", most-2)+"\"\xff", most-1, api.ErrUtf)
	for _, s := range []string{" ", "[", "x", "7", "-", `"`, "\xff", "\x00", "\""} {
		checkFault(t, strings.Repeat(s, most+1), 0, api.ErrLong)
		checkFault(t, s+strings.Repeat(" ", most), 0, api.ErrLong)
		checkFault(t, strings.Repeat(" ", most)+s, 0, api.ErrLong)
	}
	checkFault(t, `"`+strings.Repeat("a", most-1)+`"`, 0, api.ErrLong)
	checkFault(t, strings.Repeat("\u00e9", most/2)+" ", 0, api.ErrLong)
	checkFault(t, strings.Repeat("[1,2]", 1<<20), 0, api.ErrLong)
}

// P4.1 and P1: all rows of some pieces and of parts of them.
func TestAllRows(t *testing.T) {
	from := []string{
		" ", "\n", "{", "]", ":", ",", `"`, `"a"`, "\\", "-", "0", "1", "23", ".", "e", "E", "t", "true", "false", "null", "nul", "l",
		"_", "a", "Z", "u00e9", "\xff", "\xc3\xa9", "\x00", "'", "/",
	}
	for n := range 4 {
		eachText(from, n, func(s string) { checkText(t, s) })
	}
	for n := range 7 {
		eachText([]string{" ", ",", `"`, `\`, "-", "0", "true", "x"}, n, func(s string) { checkText(t, s) })
	}
}

// P4.2: what is answered is one's own: changed and added to, it changes no
// other answer.
func TestNewMemory(t *testing.T) {
	const s = `{"a":[1,-2,true,null,"b\n"]} `
	want, _, _ := tokensOf(s)
	first, _, _ := scan.Tokens(s)
	second, _, _ := scan.Tokens(s)
	third, _, _ := scan.Tokens(s[:5])
	for i := range first {
		first[i] = api.Token{Kind: 7, N: 7, S: "7", At: 7}
	}
	first = append(first[:0:cap(first)], make([]api.Token, cap(first))...)
	if !slices.Equal(second, want) || !slices.Equal(third, want[:3]) {
		t.Fatalf("other answers are %v and %v, of the same memory as one that was changed", second, third)
	}
	_ = append(second, first...)
	checkTokens(t, s, want)
}

// P4.2: the texts of tokens lie in no memory of the text that was scanned.
func TestNewMemoryOfTexts(t *testing.T) {
	s := strings.Clone(`{"name":[true,false,null,"","a","b\n","` + strings.Repeat("long", 100) + `"]}`)
	from := uintptr(unsafe.Pointer(unsafe.StringData(s)))
	tokens, _, _ := scan.Tokens(s)
	for _, x := range tokens {
		if len(x.S) == 0 {
			continue
		}
		at := uintptr(unsafe.Pointer(unsafe.StringData(x.S)))
		if at >= from && at < from+uintptr(len(s)) {
			t.Errorf("the token %v shares the text that was scanned", x)
		}
	}
}
