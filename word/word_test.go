package word_test

import (
	"math/rand"
	"regexp"
	"strings"
	"testing"

	"cardbox/word"
)

const (
	letters = "ABCDEFGHIJKLMNOPQRSTUVWXYZabcdefghijklmnopqrstuvwxyz"
	digits  = "0123456789"
	// inMedia are the bytes behind the first one of a name of a media type,
	// inUri those behind the : of an address.
	inMedia = letters + digits + "!#$&-^_.+"
	inUri   = letters + digits + "!#$%&'()*+,-./:;=?@[]_~"
)

// forms are the four forms of texts, each with its call and, by the library,
// what it ought to tell.
var forms = []struct {
	name string
	is   func(string) bool
	form *regexp.Regexp
}{
	{"Media", word.Media, regexp.MustCompile(`^[A-Za-z0-9][A-Za-z0-9!#$&^_.+-]{0,126}/[A-Za-z0-9][A-Za-z0-9!#$&^_.+-]{0,126}$`)},
	{"Lang", word.Lang, regexp.MustCompile(`^[A-Za-z]{2,8}(-[A-Za-z0-9]{1,8})*$`)},
	{"Uri", word.Uri, regexp.MustCompile(`^[A-Za-z][A-Za-z0-9+.-]*:[!#-;=?-\[\]_a-z~]+$`)},
	{"Other", word.Other, regexp.MustCompile(`(?s)^[^:]+:.+$`)},
}

// latin makes a point of each byte, for the library tells points apart.
func latin(s string) string {
	l := make([]rune, len(s))
	for i := range len(s) {
		l[i] = rune(s[i])
	}
	return string(l)
}

// checkText holds the four forms of a text against the library.
func checkText(t *testing.T, s string) {
	t.Helper()
	l := latin(s)
	for _, f := range forms {
		if got, want := f.is(s), f.form.MatchString(l); got != want {
			t.Fatalf("%s(%.80q), of %d bytes, = %t; want %t", f.name, s, len(s), got, want)
		}
	}
}

// check holds a form of texts, told by its call, against what is wanted, and
// their other forms against the library.
func check(t *testing.T, is func(string) bool, want bool, texts ...string) {
	t.Helper()
	for _, s := range texts {
		if got := is(s); got != want {
			t.Fatalf("%.80q, of %d bytes: %t; want %t", s, len(s), got, want)
		}
		checkText(t, s)
	}
}

// checkIn holds In against what is wanted.
func checkIn(t *testing.T, list, s string, want bool) {
	t.Helper()
	if got := word.In(list, s); got != want {
		t.Fatalf("In(%.80q, %.80q) = %t; want %t", list, s, got, want)
	}
}

// inOf is what In ought to tell: whether a word stands between two blanks.
func inOf(list, s string) bool {
	return s != "" && !strings.Contains(s, " ") && strings.Contains(" "+list+" ", " "+s+" ")
}

// eachText calls f with all texts of at most so many bytes of some.
func eachText(bytes string, most int, f func(string)) {
	f("")
	if most == 0 {
		return
	}
	for i := range len(bytes) {
		eachText(bytes, most-1, func(s string) { f(bytes[i:i+1] + s) })
	}
}

// P12.1: texts without bytes, of one byte, and of two.
func TestFewBytes(t *testing.T) {
	for _, f := range forms {
		check(t, f.is, false, "")
		for c := range 256 {
			check(t, f.is, false, string([]byte{byte(c)}))
		}
	}
	for c := range 1 << 16 {
		checkText(t, string([]byte{byte(c >> 8), byte(c)}))
	}
}

// P12.1: which of the 256 bytes may stand at each kind of place.
func TestPlaces(t *testing.T) {
	all := ""
	for c := range 256 {
		all += string([]byte{byte(c)})
	}
	noColon := strings.Replace(all, ":", "", 1)
	inScheme := letters + digits + "+-."
	for _, p := range []struct {
		is            func(string) bool
		ahead, behind string
		taken         string
	}{
		{word.Media, "", "/b", letters + digits},
		{word.Media, "", "a/b", letters + digits},
		{word.Media, "a", "/b", inMedia},
		{word.Media, "a", "a/b", inMedia},
		{word.Media, "a/", "", letters + digits},
		{word.Media, "a/", "b", letters + digits},
		{word.Media, "a/b", "b", inMedia},
		{word.Media, "a/b", "", inMedia},
		{word.Media, "a", "b", "/"},
		{word.Lang, "", "n", letters},
		{word.Lang, "e", "", letters},
		{word.Lang, "", "ng", letters},
		{word.Lang, "e", "g", letters},
		{word.Lang, "en", "", letters},
		{word.Lang, "en", "fr", letters + "-"},
		{word.Lang, "en-", "", letters + digits},
		{word.Lang, "en-", "b", letters + digits},
		{word.Lang, "en-a", "b", letters + digits + "-"},
		{word.Lang, "en-a", "", letters + digits},
		{word.Lang, "en-a-", "", letters + digits},
		{word.Lang, "en-a-", "-b", letters + digits},
		{word.Lang, "", "-a", ""},
		{word.Uri, "", ":b", letters},
		{word.Uri, "", "a:b", letters},
		{word.Uri, "a", ":b", inScheme + ":"},
		{word.Uri, "a", "a:b", inScheme + ":"},
		{word.Uri, "a", "b", ":"},
		{word.Uri, "a:", "", inUri},
		{word.Uri, "a:", "b", inUri},
		{word.Uri, "a:b", "b", inUri},
		{word.Uri, "a:b", "", inUri},
		{word.Uri, "mailto:a", "b@c", inUri},
		{word.Other, "", ":b", noColon},
		{word.Other, "", "a:b", noColon},
		{word.Other, "a", ":b", all},
		{word.Other, "a", "b", ":"},
		{word.Other, "a:", "", all},
		{word.Other, "a:", "b", all},
		{word.Other, "a:b", "b", all},
		{word.Other, "a:b", "", all},
	} {
		for _, c := range []byte(all) {
			check(t, p.is, strings.IndexByte(p.taken, c) >= 0, p.ahead+string([]byte{c})+p.behind)
		}
	}
}

// P12.1: each byte in place of, ahead of and behind each one of texts of the
// four forms.
func TestEachByte(t *testing.T) {
	for _, s := range []string{"image/svg+xml", "a.b-c/d_e^f", "de-CH-1996", "zh-Hant-x-a1b2c3d4", "mailto:a@b.c", "h+t.t-p://x/y?z=1#a:b", "example.com:foo", "a b:\x00c", "a1/b:c-d"} {
		for at := range len(s) + 1 {
			for c := range 256 {
				checkText(t, s[:at]+string([]byte{byte(c)})+s[at:])
				if at < len(s) {
					checkText(t, s[:at]+string([]byte{byte(c)})+s[at+1:])
				}
			}
		}
	}
}

// P12.1: names with a / or two, or none, or beside other signs.
func TestMedia(t *testing.T) {
	check(t, word.Media, true, "image/svg+xml", "image/png", "text/plain", "a/b", "1/2", "0/9", "A/Z", "z/a", "9/0", "application/vnd.x-y_z", "a!#$&-^_.+/b!#$&-^_.+", "IMAGE/PNG", "application/vnd.oasis.opendocument.text", "a./b.", "a-/b-", "a--b/c..d")
	check(t, word.Media, false, "a", "ab", "image", "imagepng", "image.png", "image\\png", "image:png")
	check(t, word.Media, false, "/", "//", "image/", "/png", "//png", "image//", "image//png", "a/b/", "/a/b", "a/b/c", "a/b/c/d")
	check(t, word.Media, false, " image/png", "image/png ", "image /png", "image/ png", "image/p ng", "text/plain;charset=utf-8", "text/plain; charset=utf-8", "text/plain;", ";a/b", "a;/b", "a/;b", "image/*", "*/*", "a/b,c/d", "a/b\n", "a/b\x00", "a/b%", "a/(b)", "a/b=c", "a/b'", "a/b~", "a/b*", "a/b`", "a/b{", "a/b|")
	check(t, word.Media, false, "\u00e9/b", "a/\u00e9", "a\u00e9/b", "a/b\u00e9", "a\x80/b", "a/b\x80", "a/b\xff", "\xff/b", "a\uff0fb", "\u0661/b", "\u0431/b", "a/b\u212a")
	for _, sign := range "!#$&-^_.+" {
		s := string(sign)
		check(t, word.Media, false, s+"/b", s+"a/b", "a/"+s, "a/"+s+"b", s+"a/"+s+"b")
		check(t, word.Media, true, "a"+s+"/b", "a/b"+s, "a"+s+"a/b", "a/b"+s+"b", "1"+s+s+"/2"+s+s)
	}
	for _, digit := range digits {
		s := string(digit)
		check(t, word.Media, true, s+"/b", s+"a/b", "a/"+s, "a/"+s+"b", "a"+s+"/b", "a/b"+s)
	}
}

// P12.1: names of a media type of all lengths, on either side.
func TestMediaLengths(t *testing.T) {
	for n := range 300 {
		ok := 1 <= n && n <= 127
		for _, name := range []string{strings.Repeat("a", n), strings.Repeat("0", n), ("b" + strings.Repeat(".", n))[:n]} {
			check(t, word.Media, ok, name+"/b", "b/"+name, name+"/"+name, name+"/"+strings.Repeat("c", 127), strings.Repeat("c", 127)+"/"+name)
			check(t, word.Media, false, name, name+"/", "/"+name, name+"/"+strings.Repeat("c", 128), strings.Repeat("c", 128)+"/"+name)
		}
	}
}

// P12.1: tags of all lengths, of letters and of digits, one and many.
func TestLang(t *testing.T) {
	check(t, word.Lang, true, "de-CH", "en", "EN", "eN", "de-CH-1996", "zh-Hant-TW", "art-lojban", "sl-rozaj-biske-1994", "abcdefgh", "en-a", "en-1", "en-12345678", "en-abcdefgh", "en-1abcdefg", "en-a-b-c-1-2-3", "en-a1-1a", "en-x-private", "xx-0", "qaa-Qaaa-QM-x-southern")
	check(t, word.Lang, false, "e", "1", "-", "_", "de-", "-de", "--", "1a", "a1", "e1", "1e", "12", "en1", "e1n", "1en", "abcdefg1", "abcdefghi", "en-abcdefghi", "en-123456789", "en-a-abcdefghi", "abcdefghi-a", "a-b", "i-klingon", "x-a", "e-en", "1-en", "12-en", "a1-en")
	check(t, word.Lang, false, "en-", "-en", "en--us", "en-us-", "-en-us", "en--", "--en", "en-us--x", "en---us", "en-a--", "en_US", "en_", "_en", "en-US_x", "en_US-x", "en.US", "en US", "en us", " en", "en ", "en- us", "en -us", "en\n", "en-us\n", "en\x00", "en,de", "en;q=1", "*", "en-*")
	check(t, word.Lang, false, "\u00e9n", "e\u00e9", "en-\u00e9", "en\u2010us", "\x80\x80", "en-\x80", "en-\xff", "\uff45\uff4e", "en-\u0661", "\u0435n", "e\u212a")
	for n := range 40 {
		tag := strings.Repeat("a", n)
		check(t, word.Lang, 2 <= n && n <= 8, tag, tag+"-a", tag+"-1", tag+"-abcdefgh-12345678")
		check(t, word.Lang, 1 <= n && n <= 8, "en-"+tag, "en-us-"+tag, "en-"+tag+"-us", "en-"+strings.Repeat("1", n), "en-"+("a" + strings.Repeat("1", n))[:n], "en-"+("1" + strings.Repeat("z", n))[:n])
		check(t, word.Lang, false, tag+"-", "-"+tag, tag+"_", tag+"-abcdefghi", tag+"--en", tag+"1", "1"+tag, "a1-"+tag)
		check(t, word.Lang, true, "en"+strings.Repeat("-a", n), "abcdefgh"+strings.Repeat("-12345678", n), "en"+strings.Repeat("-a1-2b-33", n))
		check(t, word.Lang, false, "en"+strings.Repeat("-a", n)+"-", "e"+strings.Repeat("-a", n), "en"+strings.Repeat("-a", n)+"-abcdefghi", "en"+strings.Repeat("-a", n)+"--b")
	}
}

// P12.1: texts with a : or several, or none, and what stands ahead of it and
// behind it.
func TestUri(t *testing.T) {
	check(t, word.Uri, true, "mailto:a", "a:b", "A:B", "z:!", "Z:~", "a::", "a:::", "a:b:c", "a:b:", "http://x.y/z?a=b&c=%20#d", "urn:uuid:1", "data:image/png;base64,AA==", "tel:+1-2", "svn+ssh://x", "coap.tcp:x", "x-y:z", "a:/", "h:[::1]", "a:%", "a:%zz", "a:'", "a:b@c", "a:(b)", "a:b*c,d;e=f$g!h_i~j")
	check(t, word.Uri, true, "a1:b", "a+:b", "a-:b", "a.:b", "a+-.1:b", "a1b2:c", "a++:b", "a--:b", "a..:b", "a00:b")
	check(t, word.Uri, false, "a", "ab", "mailto", "http//x", "x/y", "#a", "?a", "./a", "a;b", "a.b-c+d")
	check(t, word.Uri, false, "a:", "abc:", "http:", "a+:", ":", "::", ":::", ":a", ":b", "::a", ":a:", ":a:b", "://x")
	check(t, word.Uri, false, "1:b", "1a:b", "0:b", "9a:b", "+:b", "-:b", ".:b", "+a:b", "-a:b", ".a:b", "_:b", "_a:b", "1a+:b", "@a:b")
	check(t, word.Uri, false, "a_:b", "a/b:c", "a?b:c", "a#b:c", "a@b:c", "a%b:c", "a b:c", " a:b", "a :b", "a*:b", "a,b:c", "a;b:c", "a=b:c", "a~:b", "a[:b", "./a:b", "//a:b", "\u00e9:b", "a\u00e9:b", "\x80:b", "a\x00:b")
	check(t, word.Uri, false, "a:b c", "a: b", "a:b ", "a: ", "a:b\n", "a:\t", "a:b\u00e9", "a:\u00e9", "a:b\xff", "a:\u212a", "a:\uff41")
	for _, sign := range "\"<>\\^`{|}" {
		c := string(sign)
		check(t, word.Uri, false, "a:"+c, "a:"+c+"b", "a:b"+c, "a:b"+c+"c", "a::"+c, "a:b:"+c, "a"+c+":b", c+":b", c+"a:b", "http://x/"+c+"?y")
	}
	for _, b := range []byte{0x00, 0x01, 0x09, 0x0a, 0x0d, 0x1f, 0x20, 0x7f, 0x80, 0x81, 0xa0, 0xa1, 0xc3, 0xe9, 0xfe, 0xff} {
		c := string([]byte{b})
		check(t, word.Uri, false, "a:"+c, "a:"+c+"b", "a:b"+c, "a:b"+c+"c", "a"+c+":b", c+":b")
	}
	for _, b := range []byte{0x21, 0x23, 0x3b, 0x3d, 0x3f, 0x40, 0x5b, 0x5d, 0x5f, 0x61, 0x7a, 0x7e} {
		c := string([]byte{b})
		check(t, word.Uri, true, "a:"+c, "a:"+c+"b", "a:b"+c, "a:b"+c+"c", "a:"+c+c, "a::"+c)
	}
	for n := 1; n < 300; n++ {
		scheme, rest := strings.Repeat("a", n), strings.Repeat("1", n)
		check(t, word.Uri, true, scheme+":b", "a:"+rest, scheme+":"+rest, "a"+rest+":b")
		check(t, word.Uri, false, rest+":b", scheme+":", ":"+rest, scheme, "a:"+rest+" ", scheme+"_:b")
	}
}

// P12.1: texts with a : or several, or none, with bytes of any kind on either
// side.
func TestOther(t *testing.T) {
	check(t, word.Other, true, "a:b", "example.com:foo", "1:b", "a b:c", " : ", "\x00:\x00", "\xff:\xff", "\u00e9:x", "x:\u00e9", "\n:\n", "/:/", "-:-", "@type:x", "a:{", "a:b c", "\":\"")
	check(t, word.Other, true, "a::", "a:::", "a::b", "a:b:", "a:b:c", "a:b::", "a::b:", " ::")
	check(t, word.Other, false, "a", "ab", "example.com", "a b", "@type", "a/b", "\u00e9", "\xff", "a;b", "a\uff1ab")
	check(t, word.Other, false, ":", "::", ":::", "a:", "ab:", " :", "\x00:", "\u00e9:", ":a", ":ab", ": ", ":\x00", ":\u00e9", "::a", ":a:", ":a:b", ":a::b", ":::a")
	for n := 1; n < 300; n++ {
		s := strings.Repeat("a", n)
		check(t, word.Other, true, s+":b", "a:"+s, s+":"+s, s+"::")
		check(t, word.Other, false, s, s+":", ":"+s, ":"+s+":"+s)
	}
}

// P12.1: all short texts of bytes that stand in the forms, and of some that
// don't.
func TestShort(t *testing.T) {
	eachText("a1-:/+ {", 5, func(s string) { checkText(t, s) })
	eachText("Za0-", 7, func(s string) { checkText(t, s) })
	eachText("b:_\xc3", 6, func(s string) { checkText(t, s) })
}

// P12.1: texts that are made by chance.
func TestChance(t *testing.T) {
	random := rand.New(rand.NewSource(121))
	parts := []string{"a", "Z", "en", "image", "svg", "abcdefgh", "1", "09", "/", "/", "-", "-", ":", ":", "+", ".", "!", "#", "_", "~", "@", " ", "{", "\"", "\x7f", "\u00e9", "\x80"}
	var told [4][2]int
	for range 300000 {
		s := ""
		for range random.Intn(7) {
			s += parts[random.Intn(len(parts))]
		}
		checkText(t, s)
		for i, f := range forms {
			if f.is(s) {
				told[i][1]++
			} else {
				told[i][0]++
			}
		}
	}
	for i, f := range forms {
		if told[i][0] < 500 || told[i][1] < 500 {
			t.Errorf("%s told: %v", f.name, told[i])
		}
	}
}

// P12.2: words of lists at all places, and texts that are none.
func TestIn(t *testing.T) {
	const list = "contact label\u00e9 link label2 private"
	for _, s := range []string{"contact", "label\u00e9", "link", "label2", "private"} {
		checkIn(t, list, s, true)
		for n := range len(s) {
			checkIn(t, list, s[:n], false)
			checkIn(t, s, s[:n], false)
			if n > 0 {
				checkIn(t, list, s[n:], false)
				checkIn(t, s, s[n:], false)
			}
		}
		for _, x := range []string{" ", "a", "\x00", "\u00e9", "\xff"} {
			checkIn(t, list, s+x, false)
			checkIn(t, list, x+s, false)
			checkIn(t, s, s+x, false)
			checkIn(t, s, x+s, false)
		}
		checkIn(t, s, s, true)
		checkIn(t, "", s, false)
		checkIn(t, " ", s, false)
		checkIn(t, list, strings.ToUpper(s), false)
		checkIn(t, list, s+" "+s, false)
	}
	for _, s := range []string{"", " ", "  ", "contact label\u00e9", "link label2", "label2 private", "t l", " link ", list, list + " ", "none", "contactlink", "\xc3", "\xa9"} {
		checkIn(t, list, s, false)
	}
	checkIn(t, "link", "link", true)
	checkIn(t, "main-number", "main", false)
	checkIn(t, "main-number", "number", false)
	checkIn(t, "main-number", "-", false)
}

// P12.2: blanks at the ends of lists, and in a row; words that are there twice;
// an empty list and an empty word.
func TestInBlanks(t *testing.T) {
	for _, list := range []string{"a bc d", " a bc d", "a bc d ", " a bc d ", "  a  bc  d  ", "a   bc   d", "a a bc bc d d", "a bc a d bc"} {
		for _, s := range []string{"a", "bc", "d"} {
			checkIn(t, list, s, true)
		}
		for _, s := range []string{"", " ", "  ", "   ", "b", "c", "a ", " a", "a bc", "a  bc", "bc d", " bc ", "a a", "d ", " d", "ab", "cd", list} {
			checkIn(t, list, s, false)
		}
	}
	for _, list := range []string{"", " ", "  ", "   "} {
		for _, s := range []string{"", " ", "  ", "   ", "a", "\x00"} {
			checkIn(t, list, s, false)
		}
	}
	for _, s := range []string{"\u00e9", "\x80", "\xff\xfe", "\u4e2d\u6587", "\t", "\n", "\x00", "a\tb", "a\nb", "\u00a0", "\u2003", "\xa0"} {
		checkIn(t, s, s, true)
		checkIn(t, "a "+s+" b", s, true)
		checkIn(t, s+" b", s, true)
		checkIn(t, "a "+s, s, true)
		checkIn(t, "a"+s+" "+s+"b", s, false)
		checkIn(t, "a"+s+"b", "a", false)
		checkIn(t, "a"+s+"b", "b", false)
	}
}

// P12.2: each of the 256 bytes as a word, within one, and between words: the
// blank alone stands between them.
func TestInBytes(t *testing.T) {
	for c := range 256 {
		s, isBlank := string([]byte{byte(c)}), c == ' '
		checkIn(t, s, s, !isBlank)
		checkIn(t, "x "+s+" y", s, !isBlank)
		checkIn(t, "x"+s+"y", "x"+s+"y", !isBlank)
		checkIn(t, "x"+s+"y", "x", isBlank)
		checkIn(t, "x"+s+"y", "y", isBlank)
		checkIn(t, "x"+s+"y z", "z", true)
		checkIn(t, "w x"+s, "x"+s, !isBlank)
		checkIn(t, "w "+s+"x", s+"x", !isBlank)
	}
}

// P12.2: all short lists and texts.
func TestInShort(t *testing.T) {
	eachText("ab ", 7, func(list string) {
		eachText("ab ", 4, func(s string) { checkIn(t, list, s, inOf(list, s)) })
	})
	eachText("a \xe9", 5, func(list string) {
		eachText("a \xe9", 5, func(s string) { checkIn(t, list, s, inOf(list, s)) })
	})
}

// P1: texts of many bytes.
func TestLong(t *testing.T) {
	for _, n := range []int{1 << 16, 1 << 20, 1<<20 + 1} {
		for _, f := range forms {
			for _, c := range []string{"a", "1", "-", "/", ":", " ", "\x00", "\xff"} {
				if f.is(strings.Repeat(c, n)) {
					t.Fatalf("%s of %d times %q", f.name, n, c)
				}
			}
		}
		long, tags := strings.Repeat("a", n), strings.Repeat("-ab", n)
		for _, x := range []struct {
			is   func(string) bool
			s    string
			want bool
		}{
			{word.Media, long + "/b", false}, {word.Media, "a/" + long, false}, {word.Media, "a/b" + strings.Repeat("/", n), false},
			{word.Lang, "en" + tags, true}, {word.Lang, "en" + tags + "-", false}, {word.Lang, "en-" + long, false},
			{word.Uri, long + ":b", true}, {word.Uri, "a:" + long, true}, {word.Uri, "a" + strings.Repeat(":", n), true}, {word.Uri, "a:" + long + " ", false},
			{word.Other, long + ":b", true}, {word.Other, "a:" + long, true}, {word.Other, long + ":", false}, {word.Other, ":" + long, false},
		} {
			if got := x.is(x.s); got != x.want {
				t.Fatalf("%.20q, of %d bytes: %t; want %t", x.s, len(x.s), got, x.want)
			}
		}
		blanks, words := strings.Repeat(" ", n), strings.Repeat("ab ", n)
		checkIn(t, blanks, "", false)
		checkIn(t, blanks, blanks, false)
		checkIn(t, blanks+"a"+blanks, "a", true)
		checkIn(t, words+"b", "b", true)
		checkIn(t, words+"ab", "b", false)
		checkIn(t, long, long, true)
		checkIn(t, long+"a", long, false)
		checkIn(t, "a", long, false)
	}
}

// The section 'Examples'.
func TestExamples(t *testing.T) {
	check(t, word.Media, true, "image/svg+xml")
	check(t, word.Media, false, "image/", "/png")
	check(t, word.Lang, true, "de-CH", "en")
	check(t, word.Lang, false, "e", "de-", "1a")
	check(t, word.Uri, true, "mailto:a")
	check(t, word.Uri, false, "a:", "1:b", "a:b c")
	checkIn(t, "a bc", "b", false)
}
