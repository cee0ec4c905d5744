package point_test

import (
	"fmt"
	"math"
	"math/rand"
	"reflect"
	"regexp"
	"slices"
	"strconv"
	"strings"
	"testing"

	"cardbox/api"
	"cardbox/point"
	"cardbox/read"
)

// value makes a value out of a text of JSON.
func value(s string) api.Value {
	v, at, e := read.Value(s)
	if e != api.OK {
		panic(fmt.Sprintf("%q: %d at %d", s, e, at))
	}
	return v
}

// text, list and members make values that no text of JSON need have.
func text(s string) api.Value { return api.Value{Kind: api.Text, S: s} }

func list(l ...api.Value) api.Value { return api.Value{Kind: api.List, L: l} }

func members(m ...api.Member) api.Value { return api.Value{Kind: api.Map, M: m} }

// named makes a member.
func named(name string, v api.Value) api.Member { return api.Member{Name: name, Val: v} }

// equal tells whether two values have the same in all their fields, members in
// their order; lists of nothing are one.
func equal(a, b api.Value) bool {
	return a.Kind == b.Kind && a.N == b.N && a.S == b.S && slices.EqualFunc(a.L, b.L, equal) &&
		slices.EqualFunc(a.M, b.M, func(x, y api.Member) bool { return x.Name == y.Name && equal(x.Val, y.Val) })
}

// show is what a message shows of anything.
func show(v any) string {
	s := fmt.Sprintf("%q", fmt.Sprint(v))
	return s[:min(len(s), 300)]
}

// checkFind holds Find against what is wanted: with an error nothing.
func checkFind(t *testing.T, v api.Value, p string, want api.Value, wantError api.Errno) {
	t.Helper()
	if got, e := point.Find(v, p); e != wantError || !equal(got, want) {
		t.Fatalf("Find(%s, %s) = %s, %d; want %s, %d", show(v), show(p), show(got), e, show(want), wantError)
	}
}

// checkEach holds Each against what is wanted: with an error nothing.
func checkEach(t *testing.T, v api.Value, p string, want api.Value, wantError api.Errno) {
	t.Helper()
	if got, e := point.Each(v, p); e != wantError || !equal(got, want) {
		t.Fatalf("Each(%s, %s) = %s, %d; want %s, %d", show(v), show(p), show(got), e, show(want), wantError)
	}
}

// checkBoth holds Find and Each against what is wanted of both.
func checkBoth(t *testing.T, v api.Value, p string, want api.Value, wantError api.Errno) {
	t.Helper()
	checkFind(t, v, p, want, wantError)
	checkEach(t, v, p, want, wantError)
}

// P8.1: the parts of pointers, of which these are the texts.
func TestParts(t *testing.T) {
	for _, x := range []struct {
		p    string
		want []string
	}{
		{"", nil}, {"/", []string{""}}, {"/a", []string{"a"}}, {"/a/b/c", []string{"a", "b", "c"}}, {"/abc/de/f", []string{"abc", "de", "f"}}, {"/a/a/a", []string{"a", "a", "a"}},
		{"//", []string{"", ""}}, {"///", []string{"", "", ""}}, {"//a", []string{"", "a"}}, {"/a//b", []string{"a", "", "b"}}, {"/a/", []string{"a", ""}}, {"//a//", []string{"", "a", "", ""}},
		{"/~0", []string{"~"}}, {"/~1", []string{"/"}}, {"/~0a", []string{"~a"}}, {"/~1a", []string{"/a"}}, {"/a~0b", []string{"a~b"}}, {"/a~1b", []string{"a/b"}}, {"/a~0", []string{"a~"}}, {"/a~1", []string{"a/"}},
		{"/~01", []string{"~1"}}, {"/~10", []string{"/0"}}, {"/~0~1", []string{"~/"}}, {"/~1~0", []string{"/~"}}, {"/~00", []string{"~0"}}, {"/~11", []string{"/1"}}, {"/~0~0", []string{"~~"}}, {"/~1~1", []string{"//"}},
		{"/~001", []string{"~01"}}, {"/~0~01", []string{"~~1"}}, {"/~01~10", []string{"~1/0"}}, {"/~0/~1", []string{"~", "/"}}, {"/~1/~0/", []string{"/", "~", ""}}, {"/a~1/~0b", []string{"a/", "~b"}},
		{"/0/1", []string{"0", "1"}}, {"/01", []string{"01"}}, {"/-1/00", []string{"-1", "00"}}, {"/*/**", []string{"*", "**"}}, {"/ /\n", []string{" ", "\n"}}, {"/\x00/\x7f", []string{"\x00", "\x7f"}},
		{"/\u00e9/\u20ac~1\U0001f600", []string{"\u00e9", "\u20ac/\U0001f600"}}, {"/\x80/\xff~0\xc0", []string{"\x80", "\xff~\xc0"}}, {"/\ufffd", []string{"\ufffd"}}, {"/a#b/%2F", []string{"a#b", "%2F"}},
	} {
		if got, e := point.Parts(x.p); e != api.OK || !slices.Equal(got, x.want) {
			t.Errorf("Parts(%q) = %q, %d; want %q", x.p, got, e, x.want)
		}
		if got := point.Text(x.want); got != x.p {
			t.Errorf("Text(%q) = %q; want %q", x.want, got, x.p)
		}
	}
}

// noPointers are texts that are no pointers.
func noPointers() []string {
	all := []string{
		"a", "a/b", " /a", "~", "~0", "~1", "0", "*", "#/a", "\x00", "\xff/", "\u00e9", ".", "\\",
		"/~", "/a~", "/a/~", "/~0~", "/~1~", "/~~", "/~0/a~", "//~",
		"/~/", "/~/a", "/a~/b", "/a/~/b", "/~0~/1", "/~//",
		"/~2", "/~a", "/~-1", "/~~0", "/~~1", "/~ 0", "/a~9/b", "/ok/a~2", "/~0~2", "/~x/~0", "/~*", "/*/~2", "/~\u00e9", "/~\uff10",
	}
	for c := range 256 {
		if c != '0' && c != '1' {
			all = append(all, "/~"+string([]byte{byte(c)}), "/a~"+string([]byte{byte(c)})+"1/b")
		}
		if c != '/' {
			all = append(all, string([]byte{byte(c)}), string([]byte{byte(c)})+"/a")
		}
	}
	return all
}

// P8.1 and P8.2: what is no pointer has no parts and leads nowhere, with
// ErrPoint, also where a pointer would be ErrNone or need no value at all.
func TestNoPointer(t *testing.T) {
	values := []api.Value{value(`{"~":1,"/":2,"":3,"a":{"~":4,"b":5},"*":6}`), value(`[[],{}]`), value(`[]`), value(`null`), value(`"a"`), value(`7`), {}}
	for _, p := range noPointers() {
		if got, e := point.Parts(p); e != api.ErrPoint || len(got) != 0 {
			t.Errorf("Parts(%q) = %q, %d", p, got, e)
		}
		for _, v := range values {
			checkBoth(t, v, p, api.Value{}, api.ErrPoint)
			checkBoth(t, v, "/nothing/of/the/kind"+p+"/~", api.Value{}, api.ErrPoint)
		}
	}
	for _, v := range values {
		checkBoth(t, v, "/*/*/a~", api.Value{}, api.ErrPoint)
	}
}

// P8.1: the texts of parts, those with each byte among them.
func TestText(t *testing.T) {
	for _, x := range []struct {
		parts []string
		want  string
	}{
		{nil, ""}, {[]string{}, ""}, {[]string{""}, "/"}, {[]string{"", ""}, "//"}, {[]string{"a"}, "/a"}, {[]string{"a", "b"}, "/a/b"}, {[]string{"", "a", ""}, "//a/"},
		{[]string{"~"}, "/~0"}, {[]string{"/"}, "/~1"}, {[]string{"~0"}, "/~00"}, {[]string{"~1"}, "/~01"}, {[]string{"/0"}, "/~10"}, {[]string{"/1"}, "/~11"},
		{[]string{"~/"}, "/~0~1"}, {[]string{"/~"}, "/~1~0"}, {[]string{"a~b/c", "/d~"}, "/a~0b~1c/~1d~0"}, {[]string{"~~", "//"}, "/~0~0/~1~1"}, {[]string{"\xff/\u00e9"}, "/\xff~1\u00e9"},
	} {
		if got := point.Text(x.parts); got != x.want {
			t.Errorf("Text(%q) = %q; want %q", x.parts, got, x.want)
		}
	}
	for c := range 256 {
		part := string([]byte{byte(c)})
		want := part
		switch c {
		case '~':
			want = "~0"
		case '/':
			want = "~1"
		}
		if got := point.Text([]string{part, "x" + part}); got != "/"+want+"/x"+want {
			t.Errorf("Text of %q = %q", part, got)
		}
	}
}

// checkBack holds Parts of Text of parts against them.
func checkBack(t *testing.T, parts []string) {
	t.Helper()
	p := point.Text(parts)
	if got, e := point.Parts(p); e != api.OK || !slices.Equal(got, parts) {
		t.Fatalf("Parts of Text(%s) = %s, %d", show(parts), show(got), e)
	}
}

// P8.3: Parts of Text are the parts.
func TestPartsOfText(t *testing.T) {
	checkBack(t, nil)
	for _, a := range []string{"", "a", "~", "/", "~0", "~1", "~01", "~10", "/~", "~/", "0", "1", "*", "\u00e9", "\xff"} {
		checkBack(t, []string{a})
		checkBack(t, []string{a, "", a + a})
		for _, b := range []string{"", "~", "/", "0", "1", "~0", "~1"} {
			checkBack(t, []string{a + b})
			checkBack(t, []string{a, b})
			checkBack(t, []string{b + a + b, a})
		}
	}
	for a := range 256 {
		checkBack(t, []string{string([]byte{byte(a)})})
		for b := range 256 {
			checkBack(t, []string{string([]byte{byte(a), byte(b)}), string([]byte{byte(b)})})
		}
	}
	random := rand.New(rand.NewSource(83))
	for range 20000 {
		parts := make([]string, random.Intn(6))
		for i := range parts {
			for range random.Intn(6) {
				parts[i] += []string{"~", "/", "0", "1", "a", "\x80", "\u20ac", "*"}[random.Intn(8)]
			}
		}
		checkBack(t, parts)
	}
	for _, n := range []int{1, 255, 65536, 1 << 20} {
		checkBack(t, slices.Repeat([]string{""}, n))
		checkBack(t, slices.Repeat([]string{"~1/"}, n))
		checkBack(t, []string{strings.Repeat("~/a", n), strings.Repeat("b", n)})
	}
}

// rightPart are the parts of pointers as they stand there.
var rightPart = regexp.MustCompile(`(?s)^([^~]|~[01])*$`)

// cut is what Parts ought to tell.
func cut(p string) ([]string, api.Errno) {
	if p == "" {
		return nil, api.OK
	}
	parts := strings.Split(p, "/")
	if parts[0] != "" {
		return nil, api.ErrPoint
	}
	parts = parts[1:]
	for i, part := range parts {
		if !rightPart.MatchString(part) {
			return nil, api.ErrPoint
		}
		parts[i] = strings.ReplaceAll(strings.ReplaceAll(part, "~1", "/"), "~0", "~")
	}
	return parts, api.OK
}

// P8.1: all short texts of a few signs; a pointer is the text of its parts.
func TestAllShort(t *testing.T) {
	told := map[api.Errno]int{}
	texts := []string{""}
	for i := 0; i < len(texts); i++ {
		p := texts[i]
		want, wantError := cut(p)
		got, e := point.Parts(p)
		if e != wantError || !slices.Equal(got, want) {
			t.Fatalf("Parts(%q) = %q, %d; want %q, %d", p, got, e, want, wantError)
		}
		if e == api.OK && point.Text(got) != p {
			t.Fatalf("Text of Parts(%q) = %q", p, point.Text(got))
		}
		told[e]++
		if len(p) < 6 {
			for _, c := range "/~01a*" {
				texts = append(texts, p+string(c))
			}
		}
	}
	if told[api.OK] < 1000 || told[api.ErrPoint] < 1000 {
		t.Errorf("told: %v", told)
	}
}

// P8.2: Find from maps and lists within one another, to values of each kind;
// Each likewise, where there is no *.
func TestFind(t *testing.T) {
	v := value(`{"a":{"b":{"c":[1,[2,{"d":"x"}]]},"n":null},"":{"":true,"e":""},"l":[[],{},false,-5,["y"]],"x/y":1,"x":{"y":2},"~":3,"~1":4,"~0":5,"/":{"/":6},"0":7,"é":8," ":9,"A":10,"m":{"0":11,"00":12,"-1":13}}`)
	for _, x := range []struct{ p, want string }{
		{"/a/b/c", `[1,[2,{"d":"x"}]]`}, {"/a/b/c/0", `1`}, {"/a/b/c/1", `[2,{"d":"x"}]`}, {"/a/b/c/1/0", `2`}, {"/a/b/c/1/1", `{"d":"x"}`}, {"/a/b/c/1/1/d", `"x"`}, {"/a/b", `{"c":[1,[2,{"d":"x"}]]}`},
		{"/a/n", `null`}, {"/", `{"":true,"e":""}`}, {"//", `true`}, {"//e", `""`}, {"/l", `[[],{},false,-5,["y"]]`}, {"/l/0", `[]`}, {"/l/1", `{}`}, {"/l/2", `false`}, {"/l/3", `-5`}, {"/l/4", `["y"]`}, {"/l/4/0", `"y"`},
		{"/x~1y", `1`}, {"/x/y", `2`}, {"/~0", `3`}, {"/~01", `4`}, {"/~00", `5`}, {"/~1", `{"/":6}`}, {"/~1/~1", `6`}, {"/0", `7`}, {"/é", `8`}, {"/ ", `9`}, {"/A", `10`}, {"/m/0", `11`}, {"/m/00", `12`}, {"/m/-1", `13`},
	} {
		checkBoth(t, v, x.p, value(x.want), api.OK)
		checkBoth(t, list(text("0"), v), "/1"+x.p, value(x.want), api.OK)
		checkBoth(t, members(named("a", text("0")), named("v", v)), "/v"+x.p, value(x.want), api.OK)
		checkBoth(t, v, x.p+"/none", api.Value{}, api.ErrNone)
		checkBoth(t, v, x.p+"/9", api.Value{}, api.ErrNone)
	}
	// A part too many, from values of each kind, and names that aren't there.
	for _, p := range []string{
		"/b", "/aa", "/a/a", "/a/b/c/d", "/a/b/c/1/1/d/0", "/a/b/c/1/1/d/", "/a/n/", "/a/n/0", "/a/n/a", "//e/", "//e/0", "///", "/l/0/0", "/l/0/", "/l/1/0", "/l/1/", "/l/2/0", "/l/2/", "/l/3/0", "/l/3/", "/l/3/-5",
		"/1", "/00", "/x~1", "/y", "/x~01y", "/~11", "/a~1b", "/l/~1", "/\xc3", "/e\u0301", "/  ", "/a ", "/ a", "/m/", "/m/1", "/a/b/c/1/1/D", "/a/b/c//0", "/l/a", "/l/", "/l//",
	} {
		checkBoth(t, v, p, api.Value{}, api.ErrNone)
	}
}

// P8.2: the empty pointer leads to the value itself, whatever it is.
func TestItself(t *testing.T) {
	for _, v := range slices.Concat(odd, []api.Value{value(`null`), value(`true`), value(`false`), value(`0`), value(`-7`), value(`""`), value(`"a"`), value(`[]`), value(`{}`), value(`[[1,2],[],{"a":[3]}]`), value(`{"b":1,"a":{"*":[2]}}`)}) {
		checkBoth(t, v, "", v, api.OK)
	}
}

// P8.2: where a name stands twice, the first member of it is led to.
func TestTwice(t *testing.T) {
	one, two, three := value(`{"x":1,"l":[1]}`), value(`{"x":2,"y":3,"l":[2]}`), value(`[4]`)
	v := members(named("b", three), named("a", one), named("a", two), named("*", two), named("", three), named("*", one), named("a", three), named("", two))
	for _, x := range []struct {
		p    string
		want api.Value
	}{{"/a", one}, {"/a/x", value(`1`)}, {"/*", two}, {"/*/x", value(`2`)}, {"/*/l/0", value(`2`)}, {"/", three}, {"//0", value(`4`)}, {"/b/0", value(`4`)}} {
		checkBoth(t, v, x.p, x.want, api.OK)
	}
	for _, p := range []string{"/a/y", "/a/0", "//x", "//l"} {
		checkBoth(t, v, p, api.Value{}, api.ErrNone)
	}
	checkEach(t, list(v, v), "/*/a/l", value(`[1,1]`), api.OK)
	checkEach(t, list(v, v), "/*/a/l/*", value(`[1,1]`), api.OK)
	checkEach(t, list(v, v), "/*/*/l/*", value(`[2,2]`), api.OK)
}

// P8.2: from a list digits lead, below how many values it has.
func TestDigits(t *testing.T) {
	for _, n := range []int{0, 1, 2, 9, 10, 11, 100, 1000} {
		v, m := list(), members()
		for i := range n {
			v.L = append(v.L, text("value "+strconv.Itoa(i)))
		}
		for i := range n {
			checkBoth(t, v, "/"+strconv.Itoa(i), v.L[i], api.OK)
			checkBoth(t, list(v, v), "/1/"+strconv.Itoa(i), v.L[i], api.OK)
		}
		bad := []string{strconv.Itoa(n), strconv.Itoa(n + 1), strconv.Itoa(-n), strconv.Itoa(-n - 1), "1000000", "00", "01", "000", "0000", "-0", "-1", "-01", "+0", "+1", " 0", "0 ", " 1", "1 ", "0\n", "\t0", "\x000", "0\x00",
			"", " ", "-", "+", "a", "0a", "a0", "0x0", "0.0", "1.0", "0.", ".0", "1e0", "0e1", "0E0", "0,", "0_0", "1_0", "~", "/", "0/", "\u0660", "\uff10", "\xff", "**", "*0",
			"9007199254740990", "9007199254740991", "9007199254740992", "-9007199254740991", "4294967296", "4294967295", "2147483648", "9223372036854775807", "9223372036854775808", "-9223372036854775808", "18446744073709551615", "18446744073709551616",
			"18446744073709551617", "36893488147419103232", "340282366920938463463374607431768211456", strings.Repeat("0", 1000), strings.Repeat("1", 1000), "1" + strings.Repeat("0", 100000)}
		for _, part := range bad {
			p := point.Text([]string{part})
			checkBoth(t, v, p, api.Value{}, api.ErrNone)
			checkBoth(t, list(v, v), "/0"+p, api.Value{}, api.ErrNone)
			m.M = append(m.M, named(part, text("member "+part)))
		}
		for _, x := range m.M {
			checkBoth(t, m, point.Text([]string{x.Name}), text("member "+x.Name), api.OK)
		}
	}
}

// P8.2: with Find * is a part as others are.
func TestFindStar(t *testing.T) {
	v := value(`{"*":[{"*":1},[2]],"l":[[1,2],{"*":3}],"m":{"*":{"*":4}},"e":[],"t":"*","n":5,"**":6}`)
	for _, x := range []struct{ p, want string }{{"/*", `[{"*":1},[2]]`}, {"/*/0/*", `1`}, {"/l/1/*", `3`}, {"/m/*", `{"*":4}`}, {"/m/*/*", `4`}, {"/**", `6`}} {
		checkFind(t, v, x.p, value(x.want), api.OK)
	}
	for _, p := range []string{"/l/*", "/l/*/0", "/l/0/*", "/e/*", "/e/*/x", "/*/*", "/*/1/*", "/t/*", "/n/*", "/l/**", "/m/**"} {
		checkFind(t, v, p, api.Value{}, api.ErrNone)
	}
}

// P8.2: Each with *.
func TestEach(t *testing.T) {
	for _, x := range []struct{ v, p, want string }{
		// At the beginning, in the middle, at the end, alone.
		{`[{"a":1},{"a":2}]`, "/*/a", `[1,2]`}, {`{"l":[{"a":{"b":1}},{"a":{"b":2}}]}`, "/l/*/a/b", `[1,2]`}, {`{"l":{"m":[3,1,2]}}`, "/l/m/*", `[3,1,2]`}, {`[3,1,2]`, "/*", `[3,1,2]`}, {`[[5,{"a":["x","y"]}]]`, "/0/1/a/*", `["x","y"]`},
		// From lists whose values lead to lists, to others, to both, to lists of nothing.
		{`[[1,2],[3]]`, "/*", `[1,2,3]`}, {`[[1,2],[3],4]`, "/*", `[1,2,3,4]`}, {`[4,[1,2],5,[3]]`, "/*", `[4,1,2,5,3]`}, {`[[],[]]`, "/*", `[]`}, {`[[],1,[]]`, "/*", `[1]`}, {`[[]]`, "/*", `[]`}, {`[1]`, "/*", `[1]`},
		{`[{"a":[1,2]},{"a":[3]}]`, "/*/a", `[1,2,3]`}, {`[{"a":[1,2]},{"a":3},{"a":[]},{"a":{"b":4}},{"a":null}]`, "/*/a", `[1,2,3,{"b":4},null]`}, {`[{"a":[]},{"a":[]}]`, "/*/a", `[]`},
		// Of a list in a list its values alone stand in its place, as they are.
		{`[[[1,2],[3]],[4]]`, "/*", `[[1,2],[3],4]`}, {`[[[[1]]]]`, "/*", `[[[1]]]`}, {`[[[]]]`, "/*", `[[]]`}, {`[{"a":[[1],[[2]]]},{"a":[3]}]`, "/*/a", `[[1],[[2]],3]`}, {`[[{"a":[1]}],{"b":[2]}]`, "/*", `[{"a":[1]},{"b":[2]}]`},
		// From a list of nothing, whatever is behind the *.
		{`[]`, "/*", `[]`}, {`[]`, "/*/x", `[]`}, {`[]`, "/*/*", `[]`}, {`[]`, "/*/0/*/x~1y", `[]`}, {`{"e":[]}`, "/e/*/x", `[]`},
		// Twice and more, one behind the other and apart.
		{`[[1,2],[3]]`, "/*/*", `[1,2,3]`}, {`[[[1,2],[3]],[[4]]]`, "/*/*", `[1,2,3,4]`}, {`[[[1,2],[3]],[[4]]]`, "/*/*/*", `[1,2,3,4]`}, {`[[[[1],[2]],[[3]]],[[[4,5]]]]`, "/*/*", `[[1],[2],[3],[4,5]]`}, {`[[[[1],[2]],[[3]]],[[[4,5]]]]`, "/*/*/*", `[1,2,3,4,5]`},
		{`[[],[[]],[[],[1]]]`, "/*/*", `[1]`}, {`[[],[]]`, "/*/*", `[]`}, {`[[],[]]`, "/*/*/*/x", `[]`}, {`[[],[[]]]`, "/*/*/*/x", `[]`},
		{`{"l":[{"m":[{"n":1},{"n":[2,3]}]},{"m":[]},{"m":[{"n":[]},{"n":4}]}]}`, "/l/*/m/*/n", `[1,2,3,4]`}, {`[{"a":[1,[2]]},{"a":[[3,[4]]]}]`, "/*/a/*", `[1,2,3,[4]]`}, {`[[{"a":1},{"a":2}],[{"a":3}]]`, "/*/*/a", `[1,2,3]`}, {`[[{"a":[1,2]},{"a":[[]]}],[{"a":[3]}]]`, "/*/*/a", `[1,2,[],3]`},
		// By digits, ahead of and behind a *.
		{`[[1,2],[3,4]]`, "/*/0", `[1,3]`}, {`[[1,[2,5]],[3,[4]]]`, "/*/1", `[2,5,4]`}, {`[[1,[2,5]],[3,[4]]]`, "/*/1/0", `[2,4]`}, {`[[1,[2,5]],[3,[4]]]`, "/*/1/*", `[2,5,4]`}, {`[[[1,2],[3]],[4]]`, "/0/*", `[1,2,3]`},
		// From a map to the member *, ahead of, behind and beside lists.
		{`{"*":5}`, "/*", `5`}, {`{"*":[[1],[2]]}`, "/*", `[[1],[2]]`}, {`{"*":[[1],[2]]}`, "/*/*", `[1,2]`}, {`{"*":{"*":[{"*":1}]}}`, "/*/*/*/*", `[1]`}, {`[{"*":1},{"*":[2,3]}]`, "/*/*", `[1,2,3]`}, {`[{"*":[[1]]},[[2]]]`, "/*/*", `[[1],2]`},
		{`[{"*":{"a":1}},[{"a":2},{"a":[3]}]]`, "/*/*/a", `[1,2,3]`}, {`{"a":1,"*":null,"b":2}`, "/*", `null`}, {`{"**":1,"*":2}`, "/**", `1`}, {`[{"**":1}]`, "/*/**", `[1]`},
		// Values of each kind, more than once, in their order.
		{`[{"a":"z"},{"a":"a"},{"a":true},{"a":null},{"a":"z"},{"a":{}},{"a":-1},{"a":{}}]`, "/*/a", `["z","a",true,null,"z",{},-1,{}]`}, {`[{"b":1,"a":2},{"a":3,"b":4}]`, "/*", `[{"b":1,"a":2},{"a":3,"b":4}]`}, {`[{"":1},{"":[2]}]`, "/*/", `[1,2]`}, {`[{"x/y":1},{"x/y":2}]`, "/*/x~1y", `[1,2]`},
	} {
		checkEach(t, value(x.v), x.p, value(x.want), api.OK)
		checkEach(t, members(named("a", text("x")), named("v", value(x.v))), "/v"+x.p, value(x.want), api.OK)
	}
}

// P8.2: Each of a pointer that leads nowhere, from a value or from one of
// several; ErrPoint and ErrNone are apart.
func TestEachNowhere(t *testing.T) {
	for _, x := range []struct{ v, p string }{
		{`{"a":1}`, "/*"}, {`{}`, "/*"}, {`{"**":1}`, "/*"}, {`null`, "/*"}, {`true`, "/*"}, {`5`, "/*"}, {`"*"`, "/*"}, {`"abc"`, "/*"}, {`{"a":[1]}`, "/*/0"}, {`{"l":[]}`, "/m/*"}, {`{"l":[]}`, "/l/0/*"}, {`{"l":[]}`, "/*/l"},
		{`[1]`, "/*/a"}, {`[{}]`, "/*/a"}, {`[1]`, "/*/*"}, {`[1]`, "/*/"}, {`["a"]`, "/*/0"}, {`[[1]]`, "/*/*/*"}, {`[[]]`, "/*/0"}, {`[[]]`, "/*/x"}, {`[null]`, "/*/*"}, {`[[]]`, "/**"}, {`[{"*":1}]`, "/*/a"},
		// The first, one in the middle, the last of several alone.
		{`[{"b":1},{"a":1},{"a":2}]`, "/*/a"}, {`[{"a":1},{"b":1},{"a":2}]`, "/*/a"}, {`[{"a":1},{"a":2},{"b":1}]`, "/*/a"}, {`[[1],[],[2]]`, "/*/0"}, {`[[],[1]]`, "/*/0"}, {`[[1],[]]`, "/*/0"}, {`[[1],2]`, "/*/*"}, {`[1,[2]]`, "/*/*"}, {`[[1],{"a":2}]`, "/*/*"}, {`[[],5]`, "/*/*"}, {`[[],{}]`, "/*/*"},
		{`[[{"a":1}],[{"a":1},{"b":2}]]`, "/*/*/a"}, {`[[{"a":1},{}],[{"a":1}]]`, "/*/*/a"}, {`{"l":[{"m":[]},{"m":5}]}`, "/l/*/m/*"}, {`{"l":[{"m":[1]},{"n":[2]}]}`, "/l/*/m/*"}, {`[[1,2],[3],4]`, "/*/0"}, {`[[[1],[2]],[[3],[]]]`, "/*/*/0"},
	} {
		checkEach(t, value(x.v), x.p, api.Value{}, api.ErrNone)
		checkEach(t, list(list(), list(value(x.v))), "/1/0"+x.p, api.Value{}, api.ErrNone)
		// What is no pointer is one nowhere, also behind a part that leads nowhere.
		for _, bad := range []string{"/~", "/~2", "/~/a", "/a~"} {
			checkEach(t, value(x.v), x.p+bad, api.Value{}, api.ErrPoint)
			checkEach(t, value(x.v), bad+x.p, api.Value{}, api.ErrPoint)
		}
	}
}

// odd are values of a wrong kind, or with an N or S that their kind doesn't
// name.
var odd = []api.Value{
	{}, {Kind: -1}, {Kind: 7}, {Kind: 100}, {Kind: 1<<32 + 5}, {Kind: 1<<32 + 6}, {Kind: math.MaxInt}, {Kind: math.MinInt}, {N: 1}, {S: "a"}, {Kind: 7, N: 1, S: "*"}, {Kind: api.Null, N: 1, S: "a"}, {Kind: api.Bool, N: 2},
	{Kind: api.Int, N: math.MinInt64, S: "0"}, {Kind: api.Text, N: 1, S: "\xff"}, {Kind: api.List, N: 1, S: "a"}, {Kind: api.Map, N: 1, S: "abc"},
}

// P8.2: values of a wrong kind are led to as others are; from them nothing is.
func TestOdd(t *testing.T) {
	for _, x := range odd {
		v := members(named("a", x), named("l", list(x, list(x), x)), named("*", x))
		want, three := list(x), list(x, x, x)
		if x.Kind == api.List {
			want, three = list(), list(x)
		}
		checkBoth(t, v, "/a", x, api.OK)
		checkBoth(t, v, "/l/0", x, api.OK)
		checkBoth(t, v, "/l/1/0", x, api.OK)
		checkBoth(t, v, "/*", x, api.OK)
		checkEach(t, v, "/l/1/*", want, api.OK)
		checkEach(t, v, "/l/*", three, api.OK)
		checkEach(t, list(v, v), "/*/a", list(append(want.L, want.L...)...), api.OK)
		checkEach(t, list(v), "/*/*", want, api.OK)
		for _, p := range []string{"/", "/0", "/a", "/*/x", "/-1", "/7"} {
			if x.Kind == api.List && p == "/*/x" {
				checkEach(t, x, p, list(), api.OK)
				continue
			}
			checkBoth(t, x, p, api.Value{}, api.ErrNone)
			checkBoth(t, v, "/a"+p, api.Value{}, api.ErrNone)
			checkEach(t, v, "/l/1/*"+p, api.Value{}, api.ErrNone)
		}
	}
	// A list and a map have what they have, whatever their N and S are.
	l, m := api.Value{Kind: api.List, N: 5, S: "x", L: []api.Value{text("a"), list(text("b"))}}, api.Value{Kind: api.Map, N: -1, S: "y", M: []api.Member{named("*", text("c"))}}
	checkBoth(t, l, "/0", text("a"), api.OK)
	checkEach(t, l, "/*", list(text("a"), text("b")), api.OK)
	checkEach(t, list(l, m), "/*", list(text("a"), list(text("b")), m), api.OK)
	checkBoth(t, m, "/*", text("c"), api.OK)
}

// P8.2: what a kind doesn't have is not there.
func TestStray(t *testing.T) {
	for _, kind := range []int{0, -1, api.Null, api.Bool, api.Int, api.Text, api.List, api.Map, 7, math.MaxInt} {
		v := api.Value{Kind: kind}
		if kind != api.List {
			v.L = []api.Value{text("x"), list(text("y"))}
		}
		if kind != api.Map {
			v.M = []api.Member{named("a", text("x")), named("0", text("y")), named("*", list()), named("", text("z"))}
		}
		for _, p := range []string{"/0", "/1", "/1/0", "/a", "/", "/*/0", "/0/*"} {
			if kind == api.List && p == "/*/0" {
				checkEach(t, v, p, list(), api.OK)
				continue
			}
			checkBoth(t, v, p, api.Value{}, api.ErrNone)
			checkBoth(t, list(text("b"), v), "/1"+p, api.Value{}, api.ErrNone)
			checkEach(t, list(v), "/*"+p, api.Value{}, api.ErrNone)
		}
		if kind == api.List {
			checkFind(t, v, "/*", api.Value{}, api.ErrNone)
			checkEach(t, v, "/*", list(), api.OK)
			checkEach(t, list(v, text("b")), "/*", list(text("b")), api.OK)
			continue
		}
		checkBoth(t, v, "/*", api.Value{}, api.ErrNone)
		for _, got := range []func(api.Value, string) (api.Value, api.Errno){point.Find, point.Each} {
			if x, e := got(list(v), "/0"); e != api.OK || x.Kind != kind {
				t.Errorf("kind %d: %s, %d", kind, show(x), e)
			}
		}
		if x, e := point.Each(list(v, text("b")), "/*"); e != api.OK || len(x.L) != 2 || x.L[0].Kind != kind {
			t.Errorf("kind %d: %s, %d", kind, show(x), e)
		}
	}
}

// led is what Find ought to tell, or Each, where stars: of all values that are
// reached so far each part is taken in turn.
func led(v api.Value, p string, stars bool) (api.Value, api.Errno) {
	parts, e := cut(p)
	if e != api.OK {
		return api.Value{}, e
	}
	reached, many := []api.Value{v}, false
	for _, part := range parts {
		var next []api.Value
		for _, x := range reached {
			i := slices.IndexFunc(x.M, func(m api.Member) bool { return m.Name == part })
			n, err := strconv.Atoi(part)
			switch {
			case x.Kind == api.Map && i >= 0:
				next = append(next, x.M[i].Val)
			case x.Kind == api.List && stars && part == "*":
				next, many = append(next, x.L...), true
			case x.Kind == api.List && err == nil && strconv.Itoa(n) == part && 0 <= n && n < len(x.L):
				next = append(next, x.L[n])
			default:
				return api.Value{}, api.ErrNone
			}
		}
		reached = next
	}
	if !many {
		return reached[0], api.OK
	}
	all := list()
	for _, x := range reached {
		if x.Kind == api.List {
			all.L = append(all.L, x.L...)
		} else {
			all.L = append(all.L, x)
		}
	}
	return all, api.OK
}

// anyName tells a name by chance, one of few.
func anyName(random *rand.Rand) string {
	return []string{"a", "", "*", "0", "~", "/", "b", "1"}[random.Intn(8)]
}

// anyValue tells a value by chance, mostly of maps and lists that lie so deep.
func anyValue(random *rand.Rand, deep int) api.Value {
	if deep == 0 {
		return []api.Value{value(`1`), value(`"*"`), value(`null`), value(`[]`), value(`{}`), {}, value(`false`)}[random.Intn(7)]
	}
	v := list()
	if random.Intn(5) < 2 {
		v = members()
	}
	for range 1 + random.Intn(3) {
		x := anyValue(random, max(0, deep-1-random.Intn(4)/3))
		if v.Kind == api.List {
			v.L = append(v.L, x)
		} else {
			v.M = append(v.M, named(anyName(random), x))
		}
	}
	return v
}

// anyPointer tells a pointer by chance, which mostly leads somewhere.
func anyPointer(random *rand.Rand, v api.Value) string {
	var parts []string
	for range random.Intn(6) {
		part := anyName(random)
		if v.Kind == api.Map && len(v.M) > 0 && random.Intn(8) > 0 {
			m := v.M[random.Intn(len(v.M))]
			part, v = m.Name, m.Val
		} else if v.Kind == api.List && len(v.L) > 0 && random.Intn(8) > 0 {
			i := random.Intn(len(v.L))
			part, v = strconv.Itoa(i), v.L[i]
			if random.Intn(2) == 0 {
				part = "*"
			}
		}
		parts = append(parts, part)
	}
	p := point.Text(parts)
	if random.Intn(20) == 0 {
		p += []string{"~", "~2", "/~", "~/a"}[random.Intn(4)]
	}
	return p
}

// P8.2: values and pointers by chance.
func TestByChance(t *testing.T) {
	random := rand.New(rand.NewSource(82))
	told := map[string]int{}
	for range 60000 {
		v := anyValue(random, random.Intn(6))
		p := anyPointer(random, v)
		found, e := led(v, p, false)
		checkFind(t, v, p, found, e)
		each, f := led(v, p, true)
		checkEach(t, v, p, each, f)
		told[fmt.Sprint("Find ", e)]++
		told[fmt.Sprint("Each ", f)]++
		if f == api.OK && e != api.OK && len(each.L) > 1 {
			told["several"]++
		}
		if e == api.OK && !strings.Contains(p, "*") && !equal(found, each) {
			t.Fatalf("without * Find and Each of %s and %q are apart", show(v), p)
		}
	}
	for _, x := range []string{"Find 0", "Each 0", "Find 80", "Each 80", "Find 81", "Each 81", "several"} {
		if told[x] < 1000 {
			t.Errorf("told: %v", told)
		}
	}
}

// P8.2 and P1: values that lie as deep as the rules name.
func TestDeep(t *testing.T) {
	const deep = 1<<16 - 2
	lists, maps, bottom := value(`[1,[2]]`), value(`{"a":1}`), value(`[1,2]`)
	for range deep {
		lists, maps = list(lists), members(named("x", maps))
	}
	checkBoth(t, lists, strings.Repeat("/0", deep)+"/1/0", value(`2`), api.OK)
	checkBoth(t, lists, strings.Repeat("/0", deep)+"/2", api.Value{}, api.ErrNone)
	checkBoth(t, maps, strings.Repeat("/x", deep)+"/a", value(`1`), api.OK)
	checkBoth(t, maps, strings.Repeat("/x", deep)+"/a/x", api.Value{}, api.ErrNone)
	checkEach(t, lists, strings.Repeat("/*", deep), value(`[1,[2]]`), api.OK)
	checkEach(t, lists, strings.Repeat("/*", deep+1), bottom, api.OK)
	checkEach(t, lists, strings.Repeat("/*", deep+2), api.Value{}, api.ErrNone)
	checkEach(t, lists, strings.Repeat("/0/*", deep/2)+"/1/*", value(`[2]`), api.OK)
	checkBoth(t, lists, "", lists, api.OK)
	checkEach(t, lists, "/*", lists.L[0], api.OK)
}

// P8.2 and P1: lists and maps of many values, and pointers of many parts.
func TestMany(t *testing.T) {
	const n = 200000
	l, m, pairs := list(), members(), list()
	for i := range n {
		x := api.Value{Kind: api.Int, N: int64(i)}
		l.L = append(l.L, x)
		m.M = append(m.M, named("n"+strconv.Itoa(i), x))
		pairs.L = append(pairs.L, list(members(named("a", x))))
	}
	checkBoth(t, l, "/199999", l.L[n-1], api.OK)
	checkBoth(t, l, "/200000", api.Value{}, api.ErrNone)
	checkBoth(t, m, "/n199999", l.L[n-1], api.OK)
	checkEach(t, l, "/*", l, api.OK)
	checkEach(t, list(l), "/*/*", l, api.OK)
	checkEach(t, pairs, "/*/*/a", l, api.OK)
	checkEach(t, pairs, "/*/0/a", l, api.OK)
	pairs.L[n-1] = list(members())
	checkEach(t, pairs, "/*/*/a", api.Value{}, api.ErrNone)
	// A list of many values under many *: they are gone through once.
	for range 2000 {
		l = list(l)
	}
	if got, e := point.Each(l, strings.Repeat("/*", 2001)); e != api.OK || len(got.L) != n || got.L[n-1].N != n-1 {
		t.Errorf("many under many *: %s, %d", show(got), e)
	}
	for _, part := range []string{"/", "/*", "/0", "/a", "/~1"} {
		p := strings.Repeat(part, 1<<20)
		checkBoth(t, value(`[[[]]]`), "/0/0/0"+p, api.Value{}, api.ErrNone)
		checkBoth(t, value(`{"a":"x"}`), "/a"+p, api.Value{}, api.ErrNone)
		checkBoth(t, value(`5`), p+"~", api.Value{}, api.ErrPoint)
	}
	checkEach(t, value(`[[[]]]`), strings.Repeat("/*", 1<<20), list(), api.OK)
}

// The section 'Examples'.
func TestExamples(t *testing.T) {
	v := value(`{"a":[{"b":1},{"b":[2,3]}]}`)
	checkBoth(t, v, "/a/0/b", value(`1`), api.OK)
	checkEach(t, v, "/a/*/b", value(`[1,2,3]`), api.OK)
	checkBoth(t, v, "/a/2", api.Value{}, api.ErrNone)
	checkBoth(t, v, "/a/00", api.Value{}, api.ErrNone)
	checkBoth(t, value(`{"x/y":true}`), "/x~1y", value(`true`), api.OK)
	for _, p := range []string{"a", "/~2", "/~"} {
		if parts, e := point.Parts(p); e != api.ErrPoint || len(parts) != 0 {
			t.Errorf("Parts(%q) = %q, %d", p, parts, e)
		}
		checkBoth(t, v, p, api.Value{}, api.ErrPoint)
	}
}

// roomy is a value of new memory, whose lists have room to spare, with
// something in it.
func roomy(v api.Value) api.Value {
	l := make([]api.Value, 0, len(v.L)+2)
	for _, x := range v.L {
		l = append(l, roomy(x))
	}
	m := make([]api.Member, 0, len(v.M)+2)
	for _, x := range v.M {
		m = append(m, named(x.Name, roomy(x.Val)))
	}
	copy(l[len(l):cap(l)], []api.Value{text("spare"), list()})
	copy(m[len(m):cap(m)], []api.Member{named("spare", list()), named("b", list())})
	v.L, v.M = l, m
	return v
}

// whole is a value of new memory that has what another has, its lists' room
// to spare among it.
func whole(v api.Value) api.Value {
	w := v
	w.L, w.M = nil, nil
	for _, x := range v.L[:cap(v.L)] {
		w.L = append(w.L, whole(x))
	}
	for _, x := range v.M[:cap(v.M)] {
		w.M = append(w.M, named(x.Name, whole(x.Val)))
	}
	return w
}

// spoil writes over a value's lists and all that is in them, their room to
// spare too.
func spoil(v api.Value) {
	for i, x := range v.L[:cap(v.L)] {
		spoil(x)
		v.L[:cap(v.L)][i] = text("spoiled")
	}
	for i, m := range v.M[:cap(v.M)] {
		spoil(m.Val)
		v.M[:cap(v.M)][i] = named("spoiled", text("spoiled"))
	}
}

// checkStays holds a value that is handed in, its spare room too, against what
// it was, also when what was answered is written over.
func checkStays(t *testing.T, v api.Value, p string) {
	t.Helper()
	v = roomy(v)
	was := whole(v)
	for name, call := range map[string]func(api.Value, string) (api.Value, api.Errno){"Find": point.Find, "Each": point.Each} {
		got, e := call(v, p)
		if !reflect.DeepEqual(whole(v), was) {
			t.Fatalf("%s of %q: what was handed in is %s; it was %s", name, p, show(whole(v)), show(was))
		}
		again := whole(got)
		spoil(got)
		if !reflect.DeepEqual(whole(v), was) {
			t.Fatalf("%s of %q written over: what was handed in is %s; it was %s", name, p, show(whole(v)), show(was))
		}
		if got, f := call(v, p); f != e || !reflect.DeepEqual(whole(got), again) {
			t.Fatalf("%s of %q asked again = %s, %d; first %s, %d", name, p, show(got), f, show(again), e)
		}
	}
}

// Rule 5: what is handed in stays, and what is answered is new memory.
func TestStays(t *testing.T) {
	v := value(`{"a":[{"b":[1,[2]]},{"b":[3,{"c":[4]}]},{"b":{"*":[5]}}],"*":{"d":[6]},"":[]}`)
	for _, p := range []string{"", "/a", "/a/*", "/a/*/b", "/a/*/b/*", "/a/0", "/a/0/b", "/a/1/b/1/c", "/a/2/b/*", "/*", "/*/d", "/*/d/*", "/", "//*", "/x", "/a/3", "/a/*/x", "/~"} {
		checkStays(t, v, p)
		checkStays(t, list(v, v), "/*"+p)
		checkStays(t, list(v, list(v, v)), "/1/*"+p)
	}
	for _, v := range odd {
		v.L, v.M = []api.Value{list(text("x"))}, []api.Member{named("a", list(text("y")))}
		for _, p := range []string{"", "/0", "/a", "/*", "/0/0"} {
			checkStays(t, v, p)
			checkStays(t, list(v, v), "/*"+p)
			checkStays(t, members(named("a", v)), "/a"+p)
		}
	}
	random := rand.New(rand.NewSource(85))
	for range 5000 {
		v := anyValue(random, random.Intn(6))
		checkStays(t, v, anyPointer(random, v))
	}
}

// Rule 5: no two lists of one answer share any memory, though those of what
// was handed in do.
func TestApart(t *testing.T) {
	part := value(`{"a":[1,2]}`)
	v := list(part, list(part, part), part)
	for name, answer := range map[string]func() (api.Value, api.Errno){
		"Find":        func() (api.Value, api.Errno) { return point.Find(list(v), "/0/1") },
		"Each":        func() (api.Value, api.Errno) { return point.Each(v, "/*") },
		"Each of two": func() (api.Value, api.Errno) { return point.Each(list(v, v), "/*/*") },
	} {
		got, e := answer()
		if e != api.OK || len(got.L) < 2 {
			t.Fatalf("%s = %s, %d", name, show(got), e)
		}
		for i := range got.L {
			for j, x := range got.L {
				if j > i && !equal(x, part) {
					t.Fatalf("%s: %d is %s behind %d", name, j, show(x), i)
				}
			}
			spoil(got.L[i])
		}
	}
	if !equal(v, value(`[{"a":[1,2]},[{"a":[1,2]},{"a":[1,2]}],{"a":[1,2]}]`)) {
		t.Fatalf("what was handed in became %s", show(v))
	}
}

// Rule 5: nothing is kept of what is changed behind a call, and parts stay.
func TestNothingKept(t *testing.T) {
	v := value(`{"a":[{"b":[1]},{"b":[2]}]}`)
	found, _ := point.Find(v, "/a")
	each, _ := point.Each(v, "/a/*/b")
	spoil(v)
	if !equal(found, value(`[{"b":[1]},{"b":[2]}]`)) || !equal(each, value(`[1,2]`)) {
		t.Errorf("the answers became %s, %s", show(found), show(each))
	}
	checkBoth(t, v, "/a", api.Value{}, api.ErrNone)
	parts := make([]string, 2, 4)
	copy(parts[:4], []string{"a~", "/b", "spare", "room"})
	p := point.Text(parts)
	if !slices.Equal(parts[:4], []string{"a~", "/b", "spare", "room"}) {
		t.Errorf("parts became %q", parts[:4])
	}
	first, _ := point.Parts(p)
	second, _ := point.Parts(p)
	parts[0], first[1] = "x", "y"
	_ = append(first, "z")
	if p != "/a~0/~1b" || !slices.Equal(second, []string{"a~", "/b"}) {
		t.Errorf("Text, Parts became %q, %q", p, second)
	}
}
