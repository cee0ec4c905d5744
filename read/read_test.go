package read_test

import (
	"encoding/json"
	"math/rand"
	"slices"
	"strconv"
	"strings"
	"testing"
	"unsafe"

	"cardbox/api"
	"cardbox/read"
	"cardbox/scan"
)

// null, truth, number, text, list and members make values.
func null() api.Value { return api.Value{Kind: api.Null} }

func truth(n int64) api.Value { return api.Value{Kind: api.Bool, N: n} }

func number(n int64) api.Value { return api.Value{Kind: api.Int, N: n} }

func text(s string) api.Value { return api.Value{Kind: api.Text, S: s} }

func list(l ...api.Value) api.Value { return api.Value{Kind: api.List, L: l} }

func members(m ...api.Member) api.Value { return api.Value{Kind: api.Map, M: m} }

// named makes a member.
func named(name string, v api.Value) api.Member { return api.Member{Name: name, Val: v} }

// equal tells whether two values have the same in all their fields; lists of
// nothing are one.
func equal(a, b api.Value) bool {
	return a.Kind == b.Kind && a.N == b.N && a.S == b.S && slices.EqualFunc(a.L, b.L, equal) &&
		slices.EqualFunc(a.M, b.M, func(x, y api.Member) bool { return x.Name == y.Name && equal(x.Val, y.Val) })
}

// checkValue holds Value against the value that is wanted.
func checkValue(t *testing.T, s string, want api.Value) {
	t.Helper()
	v, at, e := read.Value(s)
	if !equal(v, want) || at != 0 || e != api.OK {
		t.Fatalf("Value(%.80q) = %.400v, %d, %d; want %.400v, 0, OK", s, v, at, e, want)
	}
}

// checkFault holds Value against the fault that is wanted.
func checkFault(t *testing.T, s string, place int, want api.Errno) {
	t.Helper()
	v, at, e := read.Value(s)
	if !equal(v, api.Value{}) || at != place || e != want {
		t.Fatalf("Value(%.80q) = %.400v, %d, %d; want none, %d, %d", s, v, at, e, place, want)
	}
}

// judge is what tells, for tests, what Value ought to answer to a text that
// scan has tokens of: what can stand where is asked of the library.
type judge struct {
	s      string
	tokens []api.Token
	ends   []byte                // of the maps and lists that are open
	names  []map[string]struct{} // of each of them
	parts  int
}

// goesOn tells whether what stands ahead of a token, with more behind it,
// could become JSON when all that is open is ended.
func (j *judge) goesOn(i int, more string) bool {
	s := j.s
	if i < len(j.tokens) {
		s = s[:j.tokens[i].At]
	}
	ends := slices.Clone(j.ends)
	slices.Reverse(ends)
	return json.Valid([]byte(s + more + string(ends)))
}

// open keeps in mind which maps and lists are open behind a token.
func (j *judge) open(token api.Token) {
	if token.Kind != api.TokMark {
		return
	}
	switch token.S {
	case "[", "{":
		j.ends = append(j.ends, token.S[0]+2)
		j.names = append(j.names, map[string]struct{}{})
	case "]", "}":
		if n := len(j.ends); n > 0 {
			j.ends, j.names = j.ends[:n-1], j.names[:n-1]
		}
	}
}

// token tells the error of a token, behind right ones.
func (j *judge) token(i int) api.Errno {
	token, deep := j.tokens[i], len(j.ends)+1
	j.open(token)
	isName := j.goesOn(i+1, " :1")
	switch {
	case !isName && !j.goesOn(i+1, "") && !j.goesOn(i+1, " 1") && !j.goesOn(i+1, ` "a":1`):
		return api.ErrSyntax
	case isName:
		names := j.names[len(j.names)-1]
		if _, is := names[token.S]; is {
			return api.ErrTwice
		}
		names[token.S] = struct{}{}
	case token.Kind != api.TokMark || token.S == "[" || token.S == "{":
		if deep > api.MaxDepth {
			return api.ErrDeep
		}
		if j.parts++; j.parts > api.MaxParts {
			return api.ErrMany
		}
	}
	return api.OK
}

// faultOf is the place and the error that Value ought to tell.
func faultOf(s string) (int, api.Errno) {
	tokens, at, e := scan.Tokens(s)
	if e != api.OK {
		return at, e
	}
	j := judge{s: s, tokens: tokens}
	for i := range tokens {
		if e := j.token(i); e != api.OK {
			return tokens[i].At, e
		}
	}
	if !json.Valid([]byte(s)) {
		return len(s), api.ErrSyntax
	}
	return 0, api.OK
}

// valueOf is the value that the library reads out of a right text.
func valueOf(s string) api.Value {
	d := json.NewDecoder(strings.NewReader(s))
	d.UseNumber()
	return nextOf(d)
}

// nextOf is the value that a decoder has next.
func nextOf(d *json.Decoder) api.Value {
	token, _ := d.Token()
	switch x := token.(type) {
	case bool:
		if x {
			return truth(1)
		}
		return truth(0)
	case json.Number:
		n, _ := x.Int64()
		return number(n)
	case string:
		return text(x)
	case json.Delim:
		v := list()
		if x == '{' {
			v = members()
		}
		for d.More() {
			if x == '[' {
				v.L = append(v.L, nextOf(d))
				continue
			}
			name, _ := d.Token()
			v.M = append(v.M, named(name.(string), nextOf(d)))
		}
		_, _ = d.Token()
		return v
	}
	return null()
}

// checkText holds Value against faultOf and valueOf, and tells the former.
func checkText(t *testing.T, s string) (int, api.Errno) {
	t.Helper()
	at, e := faultOf(s)
	if e != api.OK {
		checkFault(t, s, at, e)
		return at, e
	}
	checkValue(t, s, valueOf(s))
	return at, e
}

// plain are texts and the values that they are, none in another.
var plain = []struct {
	s string
	v api.Value
}{
	{"null", null()}, {"true", truth(1)}, {"false", truth(0)},
	{"0", number(0)}, {"-0", number(0)}, {"1", number(1)}, {"-7", number(-7)}, {"10", number(10)}, {"4711", number(4711)},
	{"9007199254740991", number(9007199254740991)}, {"-9007199254740991", number(-9007199254740991)},
	{`""`, text("")}, {`"a"`, text("a")}, {`" a b "`, text(" a b ")}, {`"\"\\\/\b\f\n\r\t"`, text("\"\\/\b\f\n\r\t")},
	{`"\u00e9\ud83d\ude00\u0000"`, text("\u00e9\U0001f600\x00")}, {"\"\u00e9\U0001f600\ufeff\"", text("\u00e9\U0001f600\ufeff")},
	{`"null"`, text("null")}, {`"true"`, text("true")}, {`"1"`, text("1")}, {`"[]"`, text("[]")}, {`"{}"`, text("{}")},
	{"[]", list()}, {"[ ]", list()}, {"{}", members()}, {"{\n}", members()},
}

// spaces are white space, and none.
var spaces = []string{"", " ", "\t", "\n", "\r", "\r\n", " \t\n\r "}

// P5.1: each kind of value, with white space ahead of it and behind it.
func TestEachKind(t *testing.T) {
	for _, x := range plain {
		for _, a := range spaces {
			for _, b := range spaces {
				checkValue(t, a+x.s+b, x.v)
			}
		}
	}
}

// P5.1: values in lists and maps, with white space between all.
func TestEachWithin(t *testing.T) {
	for _, x := range plain {
		for _, y := range plain {
			for _, a := range spaces {
				gap := func(parts ...string) string { return strings.Join(parts, a) }
				checkValue(t, gap("", "[", x.s, "]", ""), list(x.v))
				checkValue(t, gap("[", x.s, ",", y.s, "]"), list(x.v, y.v))
				checkValue(t, gap("[", "[", x.s, "]", ",", y.s, ",", x.s, "]"), list(list(x.v), y.v, x.v))
				checkValue(t, gap("", "{", `"a"`, ":", x.s, "}", ""), members(named("a", x.v)))
				checkValue(t, gap("{", `"b"`, ":", x.s, ",", `"a"`, ":", y.s, "}"), members(named("b", x.v), named("a", y.v)))
				checkValue(t, gap("[", "{", `"a"`, ":", "[", x.s, "]", "}", ",", y.s, "]"), list(members(named("a", list(x.v))), y.v))
				checkValue(t, gap("{", `"a"`, ":", "{", `"a"`, ":", x.s, "}", ",", `"b"`, ":", y.s, "}"),
					members(named("a", members(named("a", x.v))), named("b", y.v)))
			}
		}
	}
}

// P5.1: values as they come, members in their order.
func TestValues(t *testing.T) {
	checkValue(t, `[1,{"a":null}]`, list(number(1), members(named("a", null()))))
	checkValue(t, ` {"a" : [ ], "b":{"c":[true,false,null,-7,""]}} `,
		members(named("a", list()), named("b", members(named("c", list(truth(1), truth(0), null(), number(-7), text("")))))))
	checkValue(t, `{"z":1,"y":2,"a":3,"":4,"Z":5,"aa":6}`,
		members(named("z", number(1)), named("y", number(2)), named("a", number(3)), named("", number(4)), named("Z", number(5)), named("aa", number(6))))
	checkValue(t, `[[],[[]],[{}],{}]`, list(list(), list(list()), list(members()), members()))
	checkValue(t, `{"\u0061\n\u00e9":1,"\\u0061":2,"true":true}`,
		members(named("a\n\u00e9", number(1)), named(`\u0061`, number(2)), named("true", truth(1))))
	// Texts and names that would be tokens of other kinds without the quotes.
	for _, x := range []string{"[", "]", "{", "}", ":", ",", "null", "true", "-1"} {
		q := `"` + x + `"`
		checkValue(t, "["+q+","+q+"]", list(text(x), text(x)))
		checkValue(t, "{"+q+":"+q+"}", members(named(x, text(x))))
		checkFault(t, q+q, len(q), api.ErrSyntax)
		checkFault(t, "["+q+q+"]", 1+len(q), api.ErrSyntax)
		checkFault(t, "{"+q+q+"}", 1+len(q), api.ErrSyntax)
		checkFault(t, "{"+q+":1"+q+"}", 3+len(q), api.ErrSyntax)
	}
	checkValue(t, `[3,1,2,1,3]`, list(number(3), number(1), number(2), number(1), number(3)))
}

// P5.1: names that aren't twice in one map, alike as they are.
func TestNamesOnce(t *testing.T) {
	one := members(named("a", number(1)))
	checkValue(t, `[{"a":1},{"a":1}]`, list(one, one))
	checkValue(t, `{"a":{"a":1}}`, members(named("a", one)))
	checkValue(t, `{"a":{"a":1},"b":{"a":1}}`, members(named("a", one), named("b", one)))
	checkValue(t, `{"b":{"a":1},"a":{"b":1}}`, members(named("b", one), named("a", members(named("b", number(1))))))
	checkValue(t, `{"b":[{"a":1},{"a":1}],"a":1}`, members(named("b", list(one, one)), named("a", number(1))))
	checkValue(t, `{"a":"a","b":"a"}`, members(named("a", text("a")), named("b", text("a"))))
	checkValue(t, `{"a":1,"A":2,"a ":3," a":4,"":5,"aa":6,"\u00e9":7,"e\u0301":8}`,
		members(named("a", number(1)), named("A", number(2)), named("a ", number(3)), named(" a", number(4)), named("", number(5)),
			named("aa", number(6)), named("\u00e9", number(7)), named("e\u0301", number(8))))
	checkValue(t, `["a","a"]`, list(text("a"), text("a")))
}

// P5.1: a name that a member of the same map ahead has.
func TestNamesTwice(t *testing.T) {
	for _, x := range []struct {
		s  string
		at int
	}{
		{`{"a":1,"a":2}`, 7},
		{`{"a":1,"a":1}`, 7},
		{`{"a":1, "a" :1}`, 8},
		{`{"":1,"":2}`, 6},
		{`{"a":1,"b":2,"a":3}`, 13},
		{`{"a":1,"b":2,"b":3}`, 13},
		{`{"a":1,"b":2,"a":3,"b":4}`, 13},
		{`{"a":1,"\u0061":2}`, 7},
		{`{"\u0061":1,"a":2}`, 12},
		{`{"\u00e9":1,"\u00E9":2}`, 12},
		{"{\"\u00e9\":1,\"\\u00e9\":2}", 8},
		{"{\"\U0001f600\":1,\"\\ud83d\\ude00\":2}", 10},
		{`{"/":1,"\/":2}`, 7},
		{`{"\n":1,"\u000a":2}`, 8},
		{`{"a":{"b":1,"b":2}}`, 12},
		{`[{"a":1},{"b":1,"b":1}]`, 16},
		{`{"a":{"a":1},"a":2}`, 13},
		{`{"a":{},"a":[]}`, 8},
		{`{"a":{"b":1,"c":[{"b":1}]},"a":2}`, 27},
		{`{"a":[{"a":1}],"b":{"a":1},"a":2}`, 27},
		{`[{"a":1,"b":{"a":[{"a":1,"a":1}]}}]`, 25},
	} {
		checkFault(t, x.s, x.at, api.ErrTwice)
	}
	s := "{"
	for i := range 500 {
		s += `"n` + strconv.Itoa(i) + `":` + strconv.Itoa(i) + `,`
	}
	for _, i := range []int{0, 1, 250, 498, 499} {
		checkFault(t, s+`"n`+strconv.Itoa(i)+`":0}`, len(s), api.ErrTwice)
	}
	if v, _, e := read.Value(s + `"n500":500}`); e != api.OK || len(v.M) != 501 || v.M[500].Name != "n500" || v.M[500].Val.N != 500 {
		t.Fatalf("a map of 501 members is %.80v, %d", v, e)
	}
}

// P5.1: what scan finds is told as it tells it, whatever stands ahead of it or
// behind it.
func TestFaultsOfTokens(t *testing.T) {
	faults := []string{
		"x", "tru", "truex", "'a'", "+1", "\ufeff1", "\xff", "/**/", "-", "01", "1.5", "1e2", "9007199254740992", `"\x"`, `"\ud83d"`, "\"\xff\"", "\"a\nb\"", `"a`, `"`, `"\u12`,
	}
	ahead := []string{
		"", " ", "[", "[1,", `{"a":`, "{", "]", "1 2 ", "[1 2 ", ",", "[,", `{"a":1,"a":2,`, `{1:`, strings.Repeat("[", 16), strings.Repeat("[", 17), strings.Repeat("[1,", 20),
		"[" + strings.Repeat("1,", api.MaxParts+1),
	}
	for _, x := range faults {
		_, place, want := scan.Tokens(x + " ")
		if want == api.OK {
			t.Fatalf("%q has no fault", x)
		}
		for _, a := range ahead {
			for _, b := range []string{" ", "]", ",1]", " 'b' ", "\n}]"} {
				_, place, want = scan.Tokens(a + x + b)
				checkFault(t, a+x+b, place, want)
			}
		}
	}
	checkFault(t, "[tru]", 1, api.ErrToken)
	checkFault(t, "[1,02]", 3, api.ErrNumber)
	checkFault(t, "[1.5]", 1, api.ErrNumber)
	checkFault(t, `["a", "\q"]`, 7, api.ErrEscape)
	checkFault(t, "[\"\xff\"]", 2, api.ErrUtf)
	checkFault(t, "]]] x", 4, api.ErrToken)
	checkFault(t, `{"a":1,"a":01}`, 11, api.ErrNumber)
	checkFault(t, strings.Repeat("[", 17)+`"`, 18, api.ErrEscape)
}

// P5.1: tokens that can't stand where they stand.
func TestSyntax(t *testing.T) {
	for _, x := range []struct {
		s  string
		at int
	}{
		{"]", 0}, {"}", 0}, {":", 0}, {",", 0}, {" ]", 1}, {"\n,1", 1},
		{"1 2", 2}, {"1 1", 2}, {"null null", 5}, {`"a""b"`, 3}, {"[][]", 2}, {"{}{}", 2}, {"[]]", 2}, {"{}}", 2}, {"1]", 1}, {"1,", 1}, {"1:", 1}, {`"a":1`, 3}, {"[1],", 3}, {"{} 1", 3},
		{"[,]", 1}, {"[,1]", 1}, {"[1,]", 3}, {"[1,,2]", 3}, {"[1 2]", 3}, {"[1[]]", 2}, {"[[]1]", 3}, {"[[][]]", 3}, {"[1:2]", 2}, {"[:]", 1}, {`["a":1]`, 4}, {"[}", 1}, {"[1}", 2}, {"[1,}", 3},
		{"[[1}]", 3}, {"[{]}", 2}, {"[1{}]", 2}, {`[1"a"]`, 2}, {"[1true]", 2}, {"[1-2]", 2},
		{"{,}", 1}, {"{:}", 1}, {"{]", 1}, {"{1:2}", 1}, {"{null:1}", 1}, {"{true:1}", 1}, {"{-1:1}", 1}, {"{[]:1}", 1}, {"{{}:1}", 1}, {"{:1}", 1}, {`{,"a":1}`, 1},
		{`{"a"}`, 4}, {`{"a",}`, 4}, {`{"a"]`, 4}, {`{"a" 1}`, 5}, {`{"a""b"}`, 4}, {`{"a"[]}`, 4}, {`{"a"{}}`, 4}, {`{"a"true}`, 4}, {`{"a",1}`, 4},
		{`{"a":}`, 5}, {`{"a":,}`, 5}, {`{"a"::1}`, 5}, {`{"a":]`, 5}, {`{"a": }`, 6},
		{`{"a":1,}`, 7}, {`{"a":1,,}`, 7}, {`{"a":1,1:2}`, 7}, {`{"a":1,null}`, 7}, {`{"a":1,]`, 7}, {`{"a":1,:}`, 7}, {`{"a":1,[]}`, 7},
		{`{"a":1"b":2}`, 6}, {`{"a":1 2}`, 7}, {`{"a":1:2}`, 6}, {`{"a":1]`, 6}, {`{"a":[1}`, 7}, {`{"a":{"b":1]}`, 11}, {`{"a":{}]`, 7},
		{`{"a":1,"b"}`, 10}, {`{"a":1,"b",}`, 10}, {`{"a":1,"b":}`, 11},
	} {
		for _, behind := range []string{"", " ", "]", "}", "1", ",1]", " [[[", `:{"a":1,"a":1`} {
			if s := x.s + behind; scanned(s) {
				checkFault(t, s, x.at, api.ErrSyntax)
			}
		}
	}
}

// scanned tells whether scan has tokens of a text.
func scanned(s string) bool {
	_, _, e := scan.Tokens(s)
	return e == api.OK
}

// P5.1: texts that end where a token is wanted.
func TestEnds(t *testing.T) {
	for _, s := range []string{
		"", "[", "{", "[1", "[1,", "[[", "[[]", "[[],", "[{}", "[null", `["a"`, `{"a"`, `{"a":`, `{"a":1`, `{"a":1,`, `{"a":1,"b"`, `{"a":1,"b":`, `{"a":[`, `{"a":[]`, `{"a":{`, `{"a":{}`,
		`[1,{"a":null}`, `{"a":[{"b":[1,`, strings.Repeat("[", 16), strings.Repeat("[", 16) + strings.Repeat("]", 15), strings.Repeat(`{"a":`, 16),
	} {
		for _, a := range spaces {
			checkFault(t, s+a, len(s+a), api.ErrSyntax)
			checkFault(t, a+s, len(s+a), api.ErrSyntax)
		}
	}
}

// P5.1: what lies MaxDepth deep, and what lies deeper.
func TestDeep(t *testing.T) {
	const most = api.MaxDepth
	lists, maps, both := list(), members(), list()
	for i := range most - 1 {
		lists, maps = list(lists), members(named("a", maps))
		if i%2 == 0 {
			both = members(named("", both))
		} else {
			both = list(both)
		}
	}
	open := func(n int) string { return strings.Repeat("[", n) }
	end := func(n int) string { return strings.Repeat("]", n) }
	checkValue(t, open(most)+end(most), lists)
	checkValue(t, strings.Repeat(`{"a":`, most-1)+"{}"+strings.Repeat("}", most-1), maps)
	checkValue(t, strings.Repeat(`{"":[`, most/2)+strings.Repeat("]}", most/2), both)
	checkFault(t, open(most+1)+end(most+1), most, api.ErrDeep)
	checkFault(t, open(100)+end(100), most, api.ErrDeep)
	checkFault(t, open(api.MaxBytes), most, api.ErrDeep)
	checkFault(t, strings.Repeat(`{"a":`, most)+"{}"+strings.Repeat("}", most), 5*most, api.ErrDeep)
	checkFault(t, strings.Repeat(`{"a":`, api.MaxBytes/5), 5*most, api.ErrDeep)
	checkFault(t, strings.Repeat(`{"":[`, most/2)+"1"+strings.Repeat("]}", most/2), 5*most/2, api.ErrDeep)
	for _, x := range plain {
		checkFault(t, open(most)+x.s+end(most), most, api.ErrDeep)
		checkFault(t, open(most)+x.s, most, api.ErrDeep)
		checkFault(t, strings.Repeat(`{"a":`, most)+" "+x.s+strings.Repeat("}", most), 5*most+1, api.ErrDeep)
		if v, _, e := read.Value(open(most-1) + x.s + "," + x.s + end(most-1)); e != api.OK {
			t.Fatalf("%q lies %d deep: %v, %d", x.s, most, v, e)
		}
	}
	// What isn't within another doesn't make it lie deeper.
	checkValue(t, "["+strings.Repeat("[[]],", 20)+"[]]", list(append(slices.Repeat([]api.Value{list(list())}, 20), list())...))
	checkFault(t, open(most-1)+strings.Repeat("[],", 5)+"[[]]"+end(most-1), most-1+3*5+1, api.ErrDeep)
}

// P5.1: MaxParts values, and one more; names are none.
func TestMany(t *testing.T) {
	const most = api.MaxParts
	ones := slices.Repeat([]api.Value{number(1)}, most)
	checkValue(t, "["+strings.Repeat("1,", most-2)+"1]", list(ones[:most-1]...))
	checkFault(t, "["+strings.Repeat("1,", most-1)+"1]", 2*most-1, api.ErrMany)
	checkFault(t, "["+strings.Repeat("1,", 2*most)+"1]", 2*most-1, api.ErrMany)
	checkFault(t, " [ "+strings.Repeat("1 ,", most-1)+"\n[]]", 3+3*(most-1)+1, api.ErrMany)
	for _, x := range plain {
		checkFault(t, "["+strings.Repeat("1,", most-1)+x.s+"]", 2*most-1, api.ErrMany)
		checkFault(t, "["+strings.Repeat("1,", most-1)+x.s, 2*most-1, api.ErrMany)
		if _, _, e := read.Value("[" + strings.Repeat("1,", most-2) + x.s + "]"); e != api.OK {
			t.Fatalf("%q is the last value: %d", x.s, e)
		}
	}
	// A list of lists: each is a value, and so is what is in it.
	pairs := slices.Repeat([]api.Value{list(number(1))}, most/2-1)
	checkValue(t, "["+strings.Repeat("[1],", most/2-1)+"1]", list(append(pairs, number(1))...))
	checkFault(t, "["+strings.Repeat("[1],", most/2-1)+"[1]]", 4*(most/2-1)+2, api.ErrMany)
	checkFault(t, "["+strings.Repeat("[1],", most/2-1)+"1,1]", 4*(most/2-1)+3, api.ErrMany)
}

// namedOnes makes a text of a map of n members with unlike names.
func namedOnes(n int) string {
	b := []byte("{")
	for i := range n {
		if i > 0 {
			b = append(b, ',')
		}
		b = append(b, `"`...)
		b = append(b, string(rune('a'+i/676%26))+string(rune('a'+i/26%26))+string(rune('a'+i%26))...)
		b = append(b, `":1`...)
	}
	return string(append(b, '}'))
}

// P5.1: names don't count as values.
func TestNamesAreNoValues(t *testing.T) {
	const within = 5000
	maps := namedOnes(within)
	v, _, e := read.Value(maps)
	if e != api.OK || len(v.M) != within {
		t.Fatalf("%d members: %d, %d", within, len(v.M), e)
	}
	rest := api.MaxParts - within - 2
	ahead := "[" + maps + strings.Repeat(",1", rest)
	if v, _, e := read.Value(ahead + "]"); e != api.OK || len(v.L) != rest+1 {
		t.Fatalf("%d values: %d, %d", api.MaxParts, len(v.L), e)
	}
	checkFault(t, ahead+",1]", len(ahead)+1, api.ErrMany)
	// The member's value is one too many, not its name.
	checkFault(t, "["+strings.Repeat("1,", api.MaxParts-2)+`{"a":1}]`, 2*(api.MaxParts-2)+6, api.ErrMany)
	if _, _, e := read.Value("[" + strings.Repeat("1,", api.MaxParts-3) + `{"a":1}]`); e != api.OK {
		t.Fatal(e)
	}
	// A name may stand in a map that lies as deep as may be; its value lies
	// too deep.
	deep := strings.Repeat("[", api.MaxDepth-1)
	checkFault(t, deep+`{"a":1}`, api.MaxDepth+4, api.ErrDeep)
	checkFault(t, deep+`{"a"`, api.MaxDepth+3, api.ErrSyntax)
	checkFault(t, deep+`{1`, api.MaxDepth, api.ErrSyntax)
}

// P5.1: of a value that is wrong in several ways the first of ErrSyntax,
// ErrDeep and ErrMany; of several tokens the first one's.
func TestSeveralFaults(t *testing.T) {
	const most = api.MaxDepth
	deep := strings.Repeat("[", most)
	// As many values as may be, the last of them as deep as may be.
	many := "[" + strings.Repeat("1,", api.MaxParts-most)
	deepest := many + deep[1:]
	checkFault(t, deepest+"1", len(deepest), api.ErrDeep)
	checkFault(t, deepest+"[", len(deepest), api.ErrDeep)
	checkFault(t, deepest+"}", len(deepest), api.ErrSyntax)
	checkFault(t, deepest+":", len(deepest), api.ErrSyntax)
	checkFault(t, deepest+"],1", len(deepest)+2, api.ErrMany)
	full := "[" + strings.Repeat("1,", api.MaxParts-1)
	for _, x := range []string{"]", "}", ":", ","} {
		checkFault(t, full+x, len(full), api.ErrSyntax)
		checkFault(t, full+x+"1", len(full), api.ErrSyntax)
		checkFault(t, full[:len(full)-1]+" 1", len(full), api.ErrSyntax)
	}
	checkFault(t, full, len(full), api.ErrSyntax)
	checkFault(t, full[:len(full)-1]+"]1", len(full), api.ErrSyntax)
	for _, x := range []string{"}", ":", ","} {
		checkFault(t, deep+x, most, api.ErrSyntax)
		checkFault(t, deep+x+"1", most, api.ErrSyntax)
	}
	checkFault(t, deep+"]1", most+1, api.ErrSyntax)
	checkFault(t, deep+"] [", most+2, api.ErrSyntax)
	for _, x := range []struct {
		s  string
		at int
		e  api.Errno
	}{
		{`{"a":1,"a"`, 7, api.ErrTwice},
		{`{"a":1,"a"}`, 7, api.ErrTwice},
		{`{"a":1,"a":}`, 7, api.ErrTwice},
		{`{"a":1,"a" 1`, 7, api.ErrTwice},
		{`{"a":1,"a":` + deep + "[", 7, api.ErrTwice},
		{`{"a":1 "a":2}`, 7, api.ErrSyntax},
		{`{"a":1,,"a":2}`, 7, api.ErrSyntax},
		{`{"a" "a"}`, 5, api.ErrSyntax},
		{`{"a":1,"a":2}]`, 7, api.ErrTwice},
		{`[]{"a":1,"a":2}`, 2, api.ErrSyntax},
		{`{"b":` + deep + `,"b":1}`, 4 + most, api.ErrDeep},
		{`{"b":,"b":1}`, 5, api.ErrSyntax},
		{deep + "[]}", most, api.ErrDeep},
		{deep + `{"a":1,"a":1}`, most, api.ErrDeep},
		{deep[1:] + `{"a":1,"a":1}`, most + 4, api.ErrDeep},
	} {
		checkFault(t, x.s, x.at, x.e)
	}
}

// P5.1: MaxBytes bytes are read, and with a byte more nothing else is told,
// whatever stands there.
func TestLong(t *testing.T) {
	const most = api.MaxBytes
	checkValue(t, strings.Repeat(" ", most-4)+"null", null())
	checkValue(t, "null"+strings.Repeat("\n", most-4), null())
	checkValue(t, `"`+strings.Repeat("a", most-2)+`"`, text(strings.Repeat("a", most-2)))
	checkValue(t, `{"`+strings.Repeat("a", most-6)+`":1}`, members(named(strings.Repeat("a", most-6), number(1))))
	checkFault(t, strings.Repeat(" ", most), most, api.ErrSyntax)
	checkFault(t, strings.Repeat(" ", most-1)+"]", most-1, api.ErrSyntax)
	checkFault(t, strings.Repeat("]", most), 0, api.ErrSyntax)
	for _, s := range []string{" ", "[", "]", "x", "7", `"`, "\xff"} {
		checkFault(t, strings.Repeat(s, most+1), 0, api.ErrLong)
		checkFault(t, s+strings.Repeat(" ", most), 0, api.ErrLong)
	}
	checkFault(t, "1"+strings.Repeat(" ", most), 0, api.ErrLong)
	checkFault(t, strings.Repeat(" ", most-3)+"null", 0, api.ErrLong)
	checkFault(t, strings.Repeat("[", 1<<22), 0, api.ErrLong)
}

// grow checks a text, and, as long as it could go on to be JSON, all that have
// up to n more of the pieces behind it.
func grow(t *testing.T, s string, pieces []string, n int) {
	t.Helper()
	at, e := checkText(t, s)
	if n == 0 || e != api.OK && (e != api.ErrSyntax || at < len(s)) {
		return
	}
	for _, p := range pieces {
		grow(t, s+p, pieces, n-1)
	}
}

// P5.1 and P1: all rows of some pieces, up to the first fault and a piece more.
func TestAllRows(t *testing.T) {
	grow(t, "", []string{"[", "]", "{", "}", ":", ",", "1 ", `"a"`, `"b"`, "null "}, 6)
	grow(t, "", []string{"[", "]", "{", "}", ":", ",", `"a"`}, 8)
	grow(t, `{"a":[{"b"`, []string{"[", "]", "{", "}", ":", ",", `"a"`, `"b"`, " "}, 6)
	grow(t, strings.Repeat("[", api.MaxDepth-2), []string{"[", "]", "{", "}", ":", ",", `"a"`}, 6)
}

// P1: all rows of a few pieces, whatever is wrong in them.
func TestAllWrongRows(t *testing.T) {
	pieces := []string{"[", "]", "{", "}", ":", ",", "-1", `"a"`, "true", "x", `"`, " "}
	rows := []string{""}
	for range 4 {
		var longer []string
		for _, s := range rows {
			for _, p := range pieces {
				longer = append(longer, s+p)
				checkText(t, s+p)
			}
		}
		rows = longer
	}
}

// write puts a value as text behind b, of values that random makes, no more
// than deep within one another.
func write(b []byte, random *rand.Rand, deep int) []byte {
	kind := random.Intn(6)
	if deep == 0 {
		kind = random.Intn(4)
	}
	b = append(b, spaces[random.Intn(len(spaces))]...)
	switch kind {
	case 4:
		b = append(b, '[')
		for i := range random.Intn(4) {
			if i > 0 {
				b = append(b, ',')
			}
			b = write(b, random, deep-1)
		}
		b = append(b, ']')
	case 5:
		b = append(b, '{')
		for i := range random.Intn(4) {
			if i > 0 {
				b = append(b, ',')
			}
			b = append(b, " \""+string(rune('a'+random.Intn(8)))+"\" :"...)
			b = write(b, random, deep-1)
		}
		b = append(b, '}')
	default:
		b = append(b, plain[random.Intn(len(plain))].s...)
	}
	return append(b, spaces[random.Intn(len(spaces))]...)
}

// P5.1 and P1: texts by chance, right ones, and with a byte of them lost,
// doubled or put in another's place.
func TestByChance(t *testing.T) {
	random := rand.New(rand.NewSource(5))
	for range 2000 {
		s := string(write(nil, random, 6))
		if len(s) > 2000 {
			continue
		}
		checkText(t, s)
		for range 8 {
			i := random.Intn(len(s))
			checkText(t, s[:i])
			checkText(t, s[:i]+s[i+1:])
			checkText(t, s[:i]+s[i:i+1]+s[i:])
			checkText(t, s[:i]+string(`[]{}:,"1 a`[random.Intn(10)])+s[i+1:])
		}
	}
}

// each calls f with all values that are in one, itself ahead.
func each(v api.Value, f func(api.Value)) {
	f(v)
	for _, x := range v.L {
		each(x, f)
	}
	for _, m := range v.M {
		each(m.Val, f)
	}
}

// spoil changes all that lies in a value's memory, the spare room of its lists
// too.
func spoil(v api.Value) {
	wrong := api.Value{Kind: 7, N: 7, S: "7"}
	for i := range v.L {
		spoil(v.L[i])
	}
	for i := range v.M {
		spoil(v.M[i].Val)
	}
	for i := range v.L[:cap(v.L)] {
		v.L[:cap(v.L)][i] = wrong
	}
	for i := range v.M[:cap(v.M)] {
		v.M[:cap(v.M)][i] = api.Member{Name: "7", Val: wrong}
	}
}

// sample is a text with all kinds of values, several of some.
const sample = `{"name":[1,[2,"text",[]],[null],[]],"other":{"a":{},"b":[true,"longer text"],"c":{"d":"\u0061b"}},"":"","more":[[],[3,4,5],{"x":6},{}]}`

// P5.2: what is answered is one's own: changed, it changes no other answer.
func TestNewMemory(t *testing.T) {
	first, _, _ := read.Value(sample)
	second, _, _ := read.Value(sample)
	third, _, _ := read.Value(`[1,2,3]`)
	want := valueOf(sample)
	spoil(first)
	if !equal(second, want) || !equal(third, list(number(1), number(2), number(3))) {
		t.Fatalf("other answers are %v and %v, of the same memory as one that was changed", second, third)
	}
	checkValue(t, sample, want)
}

// room is the memory of a list, its spare room too: its first byte, and the
// one behind it.
type room struct {
	from, to uintptr
}

// roomsOf tells the memory of all lists that are in a value.
func roomsOf(v api.Value) []room {
	var rooms []room
	each(v, func(x api.Value) {
		if n := uintptr(cap(x.L)); n > 0 {
			at := uintptr(unsafe.Pointer(unsafe.SliceData(x.L)))
			rooms = append(rooms, room{at, at + n*unsafe.Sizeof(api.Value{})})
		}
		if n := uintptr(cap(x.M)); n > 0 {
			at := uintptr(unsafe.Pointer(unsafe.SliceData(x.M)))
			rooms = append(rooms, room{at, at + n*unsafe.Sizeof(api.Member{})})
		}
	})
	return rooms
}

// P5.2: no two lists of one answer or of two share memory, their spare room
// neither.
func TestListsApart(t *testing.T) {
	first, _, _ := read.Value(sample)
	second, _, _ := read.Value(sample)
	rooms := slices.Concat(roomsOf(first), roomsOf(second))
	for i, a := range rooms {
		for _, b := range rooms[:i] {
			if a.from < b.to && b.from < a.to {
				t.Fatalf("two lists of %v lie in the same memory", first)
			}
		}
	}
	checkValue(t, sample, valueOf(sample))
}

// P5.2: texts and names lie in no memory of the text that was read.
func TestNewMemoryOfTexts(t *testing.T) {
	s := strings.Clone(sample)
	from := uintptr(unsafe.Pointer(unsafe.StringData(s)))
	check := func(x string) {
		if len(x) == 0 {
			return
		}
		if at := uintptr(unsafe.Pointer(unsafe.StringData(x))); at >= from && at < from+uintptr(len(s)) {
			t.Errorf("%q shares the text that was read", x)
		}
	}
	v, _, _ := read.Value(s)
	each(v, func(x api.Value) {
		check(x.S)
		for _, m := range x.M {
			check(m.Name)
		}
	})
}
