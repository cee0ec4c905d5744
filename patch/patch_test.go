package patch_test

import (
	"fmt"
	"math"
	"math/rand"
	"reflect"
	"regexp"
	"slices"
	"strconv"
	"strings"
	"testing"

	"cardbox/api"
	"cardbox/patch"
	"cardbox/read"
	"cardbox/tree"
)

// value makes a value out of a text of JSON.
func value(s string) api.Value {
	v, at, e := read.Value(s)
	if e != api.OK {
		panic(fmt.Sprintf("%q: %d at %d", s, e, at))
	}
	return v
}

// text, number, list and members make values that no text of JSON need have.
func text(s string) api.Value { return api.Value{Kind: api.Text, S: s} }

func number(n int) api.Value { return api.Value{Kind: api.Int, N: int64(n)} }

func list(l ...api.Value) api.Value { return api.Value{Kind: api.List, L: l} }

func members(m ...api.Member) api.Value { return api.Value{Kind: api.Map, M: m} }

// named makes a member.
func named(name string, v api.Value) api.Member { return api.Member{Name: name, Val: v} }

// null is a value that takes members away.
var null = api.Value{Kind: api.Null}

// equal tells whether two values have the same in all their fields, members in
// their order; lists of nothing are one.
func equal(a, b api.Value) bool {
	return a.Kind == b.Kind && a.N == b.N && a.S == b.S && slices.EqualFunc(a.L, b.L, equal) &&
		slices.EqualFunc(a.M, b.M, func(x, y api.Member) bool { return x.Name == y.Name && equal(x.Val, y.Val) })
}

// show is what a message shows of anything.
func show(v any) string {
	s := fmt.Sprintf("%q", fmt.Sprint(v))
	return s[:min(len(s), 300)]
}

// check holds Fits and Apply of a patch that fits against what is wanted.
func check(t *testing.T, v, p, want api.Value) {
	t.Helper()
	if !patch.Fits(v, p) {
		t.Fatalf("Fits(%s, %s) is false", show(v), show(p))
	}
	if got, e := patch.Apply(v, p); e != api.OK || !equal(got, want) {
		t.Fatalf("Apply(%s, %s) = %s, %d; want %s", show(v), show(p), show(got), e, show(want))
	}
}

// checkNot holds Fits and Apply of what doesn't fit against what is wanted.
func checkNot(t *testing.T, v, p api.Value) {
	t.Helper()
	if patch.Fits(v, p) {
		t.Fatalf("Fits(%s, %s) is true", show(v), show(p))
	}
	if got, e := patch.Apply(v, p); e != api.ErrPatch || !reflect.DeepEqual(got, api.Value{}) {
		t.Fatalf("Apply(%s, %s) = %s, %d; want nothing, %d", show(v), show(p), show(got), e, api.ErrPatch)
	}
}

// P9.1: patches of paths of one part.
func TestOnePart(t *testing.T) {
	for _, x := range []struct{ v, p, want string }{
		// What is there keeps its place.
		{`{"a":1}`, `{"a":2}`, `{"a":2}`}, {`{"a":1,"b":2,"c":3}`, `{"a":4}`, `{"a":4,"b":2,"c":3}`}, {`{"a":1,"b":2,"c":3}`, `{"b":4}`, `{"a":1,"b":4,"c":3}`}, {`{"a":1,"b":2,"c":3}`, `{"c":4}`, `{"a":1,"b":2,"c":4}`},
		{`{"a":1,"b":2,"c":3}`, `{"c":6,"a":4,"b":5}`, `{"a":4,"b":5,"c":6}`},
		// What is new stands at the end, in the patch's order.
		{`{}`, `{"a":1}`, `{"a":1}`}, {`{"b":1}`, `{"a":2}`, `{"b":1,"a":2}`}, {`{}`, `{"b":1,"c":2,"a":3}`, `{"b":1,"c":2,"a":3}`}, {`{"c":1,"a":2}`, `{"b":3,"a":4,"A":5}`, `{"c":1,"a":4,"b":3,"A":5}`},
		// Null takes away what is there, and nothing else.
		{`{"a":1}`, `{"a":null}`, `{}`}, {`{"a":1,"b":2,"c":3}`, `{"a":null}`, `{"b":2,"c":3}`}, {`{"a":1,"b":2,"c":3}`, `{"b":null}`, `{"a":1,"c":3}`}, {`{"a":1,"b":2,"c":3}`, `{"c":null}`, `{"a":1,"b":2}`},
		{`{"a":1,"b":2,"c":3}`, `{"c":null,"a":null}`, `{"b":2}`}, {`{"a":null}`, `{"a":null}`, `{}`}, {`{"a":{"b":{"c":[1]}},"d":[{}]}`, `{"a":null,"d":null}`, `{}`},
		// Where there is none nothing is done.
		{`{}`, `{"a":null}`, `{}`}, {`{"a":1}`, `{"b":null}`, `{"a":1}`}, {`{"a":{"b":1}}`, `{"b":null}`, `{"a":{"b":1}}`}, {`{"aa":1,"":2}`, `{"a":null}`, `{"aa":1,"":2}`}, {`{"a":1}`, `{"":null,"aa":null,"A":null}`, `{"a":1}`},
		// All of it at once.
		{`{"a":1,"b":2,"c":3}`, `{"d":4,"c":null,"e":null,"a":5}`, `{"a":5,"b":2,"d":4}`}, {`{"a":1,"b":2}`, `{"b":null,"c":3,"a":null}`, `{"c":3}`},
		// Values of each kind, over values of each kind.
		{`{"a":1}`, `{"a":true}`, `{"a":true}`}, {`{"a":null}`, `{"a":false}`, `{"a":false}`}, {`{"a":{"b":1}}`, `{"a":"null"}`, `{"a":"null"}`}, {`{"a":[1,2]}`, `{"a":[]}`, `{"a":[]}`}, {`{"a":{"b":1,"c":2}}`, `{"a":{"c":3}}`, `{"a":{"c":3}}`}, {`{"a":{"b":1}}`, `{"a":{}}`, `{"a":{}}`},
		{`{"a":"x"}`, `{"a":""}`, `{"a":""}`}, {`{"a":"x"}`, `{"a":-7}`, `{"a":-7}`}, {`{"a":"x"}`, `{"a":0}`, `{"a":0}`}, {`{"a":{"b":1}}`, `{"a":[{"b":[null,{"c":{"d":null}}]}]}`, `{"a":[{"b":[null,{"c":{"d":null}}]}]}`},
		// Null within a value is a value as others are.
		{`{"a":{"b":1}}`, `{"a":{"b":null}}`, `{"a":{"b":null}}`}, {`{}`, `{"a":[null],"b":{"":null}}`, `{"a":[null],"b":{"":null}}`},
		// Within what is put in, names that look like paths are names.
		{`{"a":{"b":1}}`, `{"a":{"b/c":2,"~":3}}`, `{"a":{"b/c":2,"~":3}}`},
	} {
		check(t, value(x.v), value(x.p), value(x.want))
	}
}

// P9.1: patches of paths of several parts, through maps within one another.
func TestSeveralParts(t *testing.T) {
	const v = `{"a":{"b":{"c":1,"d":2},"e":3},"f":{"g":{}},"h":4}`
	for _, x := range []struct{ p, want string }{
		{`{"a/b":5}`, `{"a":{"b":5,"e":3},"f":{"g":{}},"h":4}`}, {`{"a/b":null}`, `{"a":{"e":3},"f":{"g":{}},"h":4}`}, {`{"a/e":{"x":[1]}}`, `{"a":{"b":{"c":1,"d":2},"e":{"x":[1]}},"f":{"g":{}},"h":4}`}, {`{"a/x":5}`, `{"a":{"b":{"c":1,"d":2},"e":3,"x":5},"f":{"g":{}},"h":4}`},
		{`{"a/b/c":5}`, `{"a":{"b":{"c":5,"d":2},"e":3},"f":{"g":{}},"h":4}`}, {`{"a/b/d":5}`, `{"a":{"b":{"c":1,"d":5},"e":3},"f":{"g":{}},"h":4}`}, {`{"a/b/c":null}`, `{"a":{"b":{"d":2},"e":3},"f":{"g":{}},"h":4}`}, {`{"a/b/c":null,"a/b/d":null}`, `{"a":{"b":{},"e":3},"f":{"g":{}},"h":4}`},
		{`{"f/g/h":5}`, `{"a":{"b":{"c":1,"d":2},"e":3},"f":{"g":{"h":5}},"h":4}`}, {`{"f/g/h":5,"f/g/g":{},"f/a":6}`, `{"a":{"b":{"c":1,"d":2},"e":3},"f":{"g":{"h":5,"g":{}},"a":6},"h":4}`}, {`{"f/g":null}`, `{"a":{"b":{"c":1,"d":2},"e":3},"f":{},"h":4}`},
		{`{"a/x":null}`, v}, {`{"a/b/x":null,"f/x":null,"f/g/g":null,"x":null}`, v}, {`{"a/b/":null,"a/":null,"":null,"f/g/":null}`, v},
		{`{"a/b/d":null,"h":null,"f/g/x":true,"a/e":"y","i":[]}`, `{"a":{"b":{"c":1},"e":"y"},"f":{"g":{"x":true}},"i":[]}`}, {`{"f":null,"a/b/c":{"c":{}}}`, `{"a":{"b":{"c":{"c":{}},"d":2},"e":3},"h":4}`},
	} {
		check(t, value(v), value(x.p), value(x.want))
		// One map deeper all is the same.
		var p []api.Member
		for _, m := range value(x.p).M {
			p = append(p, named("v~0/"+m.Name, m.Val))
		}
		check(t, members(named("u", null), named("v~", value(v)), named("w", null)), members(p...), members(named("u", null), named("v~", value(x.want)), named("w", null)))
	}
}

// P9.1: paths with an empty part, empty paths, paths with ~0 and ~1, and with
// parts that have a meaning elsewhere.
func TestNames(t *testing.T) {
	for _, x := range []struct{ v, p, want string }{
		// An empty path has one part, that is empty.
		{`{"":1}`, `{"":2}`, `{"":2}`}, {`{"a":1}`, `{"":2}`, `{"a":1,"":2}`}, {`{"":1,"a":2}`, `{"":null}`, `{"a":2}`}, {`{}`, `{"":null}`, `{}`}, {`{"":{"":{"":1}}}`, `{"":2}`, `{"":2}`},
		{`{"":{"":{"":1}}}`, `{"/":2}`, `{"":{"":2}}`}, {`{"":{"":{"":1}}}`, `{"//":2}`, `{"":{"":{"":2}}}`}, {`{"":{"":{"":1}}}`, `{"//":null}`, `{"":{"":{}}}`}, {`{"":{"":{}}}`, `{"//a":2}`, `{"":{"":{"a":2}}}`}, {`{"":{"a":1}}`, `{"/a":2}`, `{"":{"a":2}}`},
		{`{"a":{"":1}}`, `{"a/":2}`, `{"a":{"":2}}`}, {`{"a":{}}`, `{"a/":2}`, `{"a":{"":2}}`}, {`{"a":{"":{"b":1}}}`, `{"a//b":2}`, `{"a":{"":{"b":2}}}`}, {`{"a":{"":{"b":1}}}`, `{"a/":null}`, `{"a":{}}`},
		// ~0 is ~ and ~1 is /, also in the parts that lead.
		{`{"~":1,"/":2}`, `{"~0":3,"~1":4}`, `{"~":3,"/":4}`}, {`{"~":1,"/":2}`, `{"~0":null,"~1":null}`, `{}`}, {`{}`, `{"~0":1,"~1":2}`, `{"~":1,"/":2}`}, {`{"~1":1,"~0":2}`, `{"~01":3,"~00":4}`, `{"~1":3,"~0":4}`}, {`{"a/b":1,"a":{"b":2}}`, `{"a~1b":null}`, `{"a":{"b":2}}`},
		{`{"a/b":1,"a":{"b":2}}`, `{"a/b":null}`, `{"a/b":1,"a":{}}`}, {`{"a/b":1,"a":{"b":2}}`, `{"a~1b":3,"a/b":4}`, `{"a/b":3,"a":{"b":4}}`}, {`{"~/":{"/~":{"x":1}}}`, `{"~0~1/~1~0/x":2}`, `{"~/":{"/~":{"x":2}}}`}, {`{"~/":{"/~":{}}}`, `{"~0~1/~1~0/~01":2}`, `{"~/":{"/~":{"~1":2}}}`},
		// A * and digits are names.
		{`{"*":{"*":1},"a":{"*":2,"b":3}}`, `{"*/*":4,"a/*":null}`, `{"*":{"*":4},"a":{"b":3}}`}, {`{"0":{"1":2}}`, `{"0/1":3,"1":4,"0/0":5}`, `{"0":{"1":3,"0":5},"1":4}`}, {`{"-":{"a":1}}`, `{"-/-":2,"-/a":null,"00":3}`, `{"-":{"-":2},"00":3}`},
		// Other signs are themselves, byte by byte.
		{`{"\u00e9":{"\u20ac":1}}`, `{"\u00e9/\u20ac":2,"\u00e9/\ud83d\ude00":3,"e\u0301":4}`, `{"\u00e9":{"\u20ac":2,"\ud83d\ude00":3},"e\u0301":4}`}, {`{" ":{"\n":1}}`, `{" /\n":null," /":2,"  ":3}`, `{" ":{"":2},"  ":3}`}, {`{"A":1,"a":2}`, `{"a":3}`, `{"A":1,"a":3}`}, {`{"#":{"%2F":1}}`, `{"#/%2F":2}`, `{"#":{"%2F":2}}`},
	} {
		check(t, value(x.v), value(x.p), value(x.want))
	}
	for c := range 256 {
		name, path := string([]byte{byte(c)}), string([]byte{byte(c)})
		switch c {
		case '~':
			path = "~0"
		case '/':
			path = "~1"
		}
		v, one := members(named("a", number(1)), named(name, members(named(name, number(2))))), members(named(path+"/"+path, number(3)))
		if c == 'a' {
			v.M = v.M[1:]
		}
		want := tree.Copy(v)
		want.M[len(want.M)-1].Val.M[0].Val = number(3)
		check(t, v, one, want)
		check(t, v, members(named(path+"/"+path, null), named("x"+path, null)), tree.With(v, name, members()))
	}
}

// P9.1: nothing but maps fits, and nothing but maps is fitted.
func TestNoMap(t *testing.T) {
	some := []api.Value{
		{}, {Kind: -1}, {Kind: 7}, {Kind: 1<<32 + 6}, {Kind: math.MaxInt}, {Kind: math.MinInt}, null, value(`true`), value(`false`), value(`0`), value(`6`), text(""), text("a"), text("{}"), list(), list(members()), list(list()), list(text("a"), number(1)), value(`[["a",1]]`),
	}
	for _, x := range some {
		for _, m := range []api.Value{members(), value(`{"a":1}`), value(`{"a":{"a":1}}`), value(`{"a":null}`), value(`{"":2}`)} {
			checkNot(t, x, m)
			checkNot(t, m, x)
			// Also where members stand in what has none.
			y := x
			y.M = slices.Clone(m.M)
			checkNot(t, y, m)
			checkNot(t, m, y)
		}
		for _, y := range some {
			checkNot(t, x, y)
		}
	}
}

// P9.1: a path whose pointer is none doesn't fit.
func TestNoPointer(t *testing.T) {
	v := value(`{"~":{"~":1},"a":{"~":2,"":{}},"":{"~":3},"~2":4,"a~":{"b":5},"~~":6}`)
	bad := []string{"~", "a~", "a/~", "~/", "~/a", "a~/b", "~0~", "~1~", "~~", "~~0", "/~", "//~", "a/~0~", "~2", "a~2", "~a", "~-1", "~ 0", "~x/~0", "a/~2", "~0~2", "a~9/b", "~/~", "~\u00e9", "~\uff10", "x~", "x/y~", "*~", "0~"}
	for c := range 256 {
		if c != '0' && c != '1' {
			bad = append(bad, "~"+string([]byte{byte(c)}), "a/~"+string([]byte{byte(c)})+"1")
		}
	}
	for _, path := range bad {
		for _, x := range []api.Value{null, number(1), members()} {
			checkNot(t, v, members(named(path, x)))
			checkNot(t, members(), members(named(path, x)))
			checkNot(t, v, members(named("b", number(1)), named(path, x)))
			checkNot(t, v, members(named(path, x), named("b", number(1)), named("a/b", null)))
		}
	}
}

// P9.1: two paths of the same parts, or one whose parts are the beginning of
// another one's, don't fit, whichever stands first, whatever is between them
// and whatever their values are.
func TestBeginnings(t *testing.T) {
	v := value(`{"a":{"b":{"c":{"d":1},"":{}},"":{"":{}},"/":{},"~":{}},"":{"":{"":{}},"a":{}},"~":{"/":{}},"/":{"~":{}},"a/b":{"c":{}}}`)
	for _, x := range []struct{ a, b string }{
		{"a", "a"}, {"", ""}, {"/", "/"}, {"a/", "a/"}, {"a/b", "a/b"}, {"a/b/c/d", "a/b/c/d"}, {"~0", "~0"}, {"~1/~0", "~1/~0"}, {"x", "x"}, {"a~1b", "a~1b"}, {"a/b/x", "a/b/x"},
		{"a", "a/b"}, {"a", "a/"}, {"a", "a//"}, {"a", "a/x"}, {"a", "a/b/c"}, {"a", "a/b/c/d"}, {"a/b", "a/b/c"}, {"a/b", "a/b/x"}, {"a/b", "a/b/"}, {"a/b", "a/b/c/d"}, {"a/b", "a/b//x"}, {"a/b/c", "a/b/c/d"},
		{"", "/"}, {"", "//"}, {"", "/a"}, {"", "/a/x"}, {"", "///"}, {"/", "//"}, {"/", "//x"}, {"/", "///"}, {"/a", "/a/x"}, {"a/", "a//"}, {"a/", "a//x"}, {"a//", "a///x"}, {"~0", "~0/~1"}, {"~0", "~0/x"}, {"~1", "~1/~0"}, {"~1/~0", "~1/~0/x"}, {"a/~1", "a/~1/x"}, {"a/~0", "a/~0/"}, {"a~1b", "a~1b/c"}, {"a~1b", "a~1b/c/x"},
	} {
		for _, y := range []struct{ a, b api.Value }{{number(1), number(1)}, {number(1), null}, {null, number(1)}, {null, null}, {members(), members()}, {members(named("b", members()), named("x", members())), number(2)}} {
			a, b, c, d := named(x.a, y.a), named(x.b, y.b), named("c", number(3)), named("d", null)
			if x.a != x.b {
				check(t, v, members(b), apply(t, v, members(b)))
			}
			checkNot(t, v, members(a, b))
			checkNot(t, v, members(b, a))
			checkNot(t, v, members(c, a, d, b))
			checkNot(t, v, members(b, c, d, a))
			checkNot(t, v, members(d, b, a, c))
		}
	}
}

// apply is what Apply tells of a patch that fits.
func apply(t *testing.T, v, p api.Value) api.Value {
	t.Helper()
	got, e := patch.Apply(v, p)
	if e != api.OK {
		t.Fatalf("Apply(%s, %s): %d", show(v), show(p), e)
	}
	return got
}

// P9.1: paths that begin alike as texts, or in some of their parts, alone, fit.
func TestAlike(t *testing.T) {
	const v = `{"a":{"b":{"c":1},"bc":{"d":2}},"ab":{"":{},"c":{}},"":{"a":3,"":{}},"a/b":{"c":4},"a~":5}`
	for _, x := range []struct{ p, want string }{
		{`{"a":1,"ab":2}`, `{"a":1,"ab":2,"":{"a":3,"":{}},"a/b":{"c":4},"a~":5}`}, {`{"ab":null,"a":null,"a~0":null}`, `{"":{"a":3,"":{}},"a/b":{"c":4}}`}, {`{"a/b":1,"a/bc":2}`, `{"a":{"b":1,"bc":2},"ab":{"":{},"c":{}},"":{"a":3,"":{}},"a/b":{"c":4},"a~":5}`},
		{`{"a/b":1,"a/bc/d":null}`, `{"a":{"b":1,"bc":{}},"ab":{"":{},"c":{}},"":{"a":3,"":{}},"a/b":{"c":4},"a~":5}`}, {`{"a":null,"ab/c":null,"a~1b":null,"a~1":6}`, `{"ab":{"":{}},"":{"a":3,"":{}},"a~":5,"a/":6}`}, {`{"":1,"a":2,"ab":3}`, `{"a":2,"ab":3,"":1,"a/b":{"c":4},"a~":5}`},
		{`{"/":1,"/a":2,"/b":4}`, `{"a":{"b":{"c":1},"bc":{"d":2}},"ab":{"":{},"c":{}},"":{"a":2,"":1,"b":4},"a/b":{"c":4},"a~":5}`}, {`{"a/":1,"a/a":2,"a/b/c":null,"a/bc":null}`, `{"a":{"b":{},"":1,"a":2},"ab":{"":{},"c":{}},"":{"a":3,"":{}},"a/b":{"c":4},"a~":5}`},
		{`{"a/b":1,"a~1b":2,"ab/":null}`, `{"a":{"b":1,"bc":{"d":2}},"ab":{"c":{}},"":{"a":3,"":{}},"a/b":2,"a~":5}`}, {`{"a":1,"a~1b/c":2}`, `{"a":1,"ab":{"":{},"c":{}},"":{"a":3,"":{}},"a/b":{"c":2},"a~":5}`}, {`{"a":1,"/a":2}`, `{"a":1,"ab":{"":{},"c":{}},"":{"a":2,"":{}},"a/b":{"c":4},"a~":5}`},
		{`{"a/b/c":1,"a/c":2,"b":3,"c":4,"ab/b":5,"ab/c/b":6}`, `{"a":{"b":{"c":1},"bc":{"d":2},"c":2},"ab":{"":{},"c":{"b":6},"b":5},"":{"a":3,"":{}},"a/b":{"c":4},"a~":5,"b":3,"c":4}`}, {`{"b":1,"a/b":2}`, `{"a":{"b":2,"bc":{"d":2}},"ab":{"":{},"c":{}},"":{"a":3,"":{}},"a/b":{"c":4},"a~":5,"b":1}`},
	} {
		check(t, value(v), value(x.p), value(x.want))
	}
}

// P9.1: a path that leads through what isn't there, or through what is no map,
// doesn't fit, whatever its value is.
func TestNoWay(t *testing.T) {
	v := value(`{"a":{"b":1,"l":[1,{"x":2}],"n":null},"l":[1,{"x":2},[3]],"m":[],"t":"text","e":"","n":null,"z":0,"i":5,"f":false,"o":true,"p/q":{"x":1},"x":{},"0":{}}`)
	for _, path := range []string{
		"b/a", "y/y", "a/x/y", "x/y/z", "/a", "//", "a//b", "x//", "aa/a", "A/b", "p/q", "p~1q/x/y", "p~1/x", "a~1b/c", "~0/a", "*/b", "a/*/b", "a/b/c", "a/b/c/d", "a/B/c", "a/b/",
		"l/0", "l/1", "l/3", "l/1/x", "l/2/0", "l/-", "l/", "l/x", "l/*", "l/*/x", "a/l/0", "a/l/1/x", "a/l/", "m/0", "m/", "m/x", "m/*", "t/", "t/0", "t/text", "t/x/y", "e/", "e/0", "n/", "n/x", "n/x/y", "a/n/x", "z/", "z/0", "i/", "i/5", "f/", "f/x", "o/x", "o/",
	} {
		for _, x := range []api.Value{null, number(1), members(), list()} {
			checkNot(t, v, members(named(path, x)))
			checkNot(t, members(named("v", v)), members(named("v/"+path, x)))
			checkNot(t, v, members(named("c", number(1)), named(path, x)))
			checkNot(t, v, members(named(path, x), named("c", number(1))))
		}
	}
	// What a patch itself puts in leads nowhere: it must be there ahead of it.
	checkNot(t, value(`{}`), value(`{"a":{},"a/b":1}`))
	checkNot(t, value(`{"b":1}`), value(`{"a":{"c":{}},"b":null,"a/c/d":1}`))
	// Through what is there alone, however many parts of it are.
	check(t, v, value(`{"x/y":1,"0/0":2,"a/n":3}`), value(`{"a":{"b":1,"l":[1,{"x":2}],"n":3},"l":[1,{"x":2},[3]],"m":[],"t":"text","e":"","n":null,"z":0,"i":5,"f":false,"o":true,"p/q":{"x":1},"x":{"y":1},"0":{"0":2}}`))
}

// P9.1: a patch of just as many members as there may be, and of one more.
func TestSize(t *testing.T) {
	for _, n := range []int{0, 1, 2, api.MaxSize - 1, api.MaxSize, api.MaxSize + 1, 2 * api.MaxSize, 70000} {
		v, fresh, gone, deep, wide := members(), members(), members(), members(), members()
		for i := range n {
			name := "n" + strconv.Itoa(i)
			v.M = append(v.M, named(name, number(i)))
			fresh.M = append(fresh.M, named(name, number(i)))
			gone.M = append(gone.M, named(name, null))
			deep.M = append(deep.M, named("v/"+name, null))
			wide.M = append(wide.M, named(name, list(members(), members(), list(members()))))
		}
		if n > api.MaxSize {
			for _, p := range []api.Value{fresh, gone, wide} {
				checkNot(t, members(), p)
				checkNot(t, v, p)
			}
			checkNot(t, members(named("v", v)), deep)
			continue
		}
		check(t, members(), fresh, v)
		check(t, v, fresh, v)
		check(t, v, gone, members())
		check(t, members(), gone, members())
		check(t, members(named("v", v)), deep, members(named("v", members())))
		check(t, v, wide, wide)
	}
	// How many values there are in the one member doesn't matter.
	many := list()
	for i := range 10 * api.MaxSize {
		many.L = append(many.L, members(named("a", number(i))))
	}
	check(t, members(), members(named("a", many)), members(named("a", many)))
}

// P9.2: an empty patch changes nothing.
func TestEmptyPatch(t *testing.T) {
	for _, s := range []string{`{}`, `{"a":1}`, `{"b":{"z":[1,{"y":null}],"a":{}},"a":"x","":[],"~":{"/":true}}`} {
		check(t, value(s), members(), value(s))
		check(t, value(s), api.Value{Kind: api.Map, M: []api.Member{}}, value(s))
		check(t, value(s), api.Value{Kind: api.Map, N: 1, S: "a"}, value(s))
	}
	odd := api.Value{Kind: api.Map, N: 5, S: "x", M: []api.Member{named("a", api.Value{Kind: 7, N: 1}), named("a", api.Value{}), named("b", api.Value{Kind: api.Map, N: 1})}}
	check(t, odd, members(), odd)
	// Neither does one that takes away what isn't there.
	check(t, odd, members(named("c", null), named("b/a", null)), odd)
}

// P9.1: where a name stands twice, its first member is put in and led through,
// and all are taken away.
func TestTwice(t *testing.T) {
	one, two, three := value(`{"x":1}`), value(`{"x":2,"y":3}`), value(`4`)
	v := members(named("b", three), named("a", one), named("c", three), named("a", two), named("b", one), named("a", three))
	five := number(5)
	check(t, v, members(named("a", five)), members(named("b", three), named("a", five), named("c", three), named("a", two), named("b", one), named("a", three)))
	check(t, v, members(named("a", null)), members(named("b", three), named("c", three), named("b", one)))
	check(t, v, members(named("a", null), named("b", null)), members(named("c", three)))
	check(t, v, members(named("b", null), named("c", five), named("a", null)), members(named("c", five)))
	check(t, v, members(named("a/x", five)), members(named("b", three), named("a", value(`{"x":5}`)), named("c", three), named("a", two), named("b", one), named("a", three)))
	check(t, v, members(named("a/y", five), named("a/x", null)), members(named("b", three), named("a", value(`{"y":5}`)), named("c", three), named("a", two), named("b", one), named("a", three)))
	check(t, v, members(named("a/y", null)), v)
	// The first b is no map, though the second one is.
	checkNot(t, v, members(named("b/x", five)))
	checkNot(t, v, members(named("b/x", null)))
	inner := members(named("v", v), named("v", five))
	check(t, inner, members(named("v/a", null), named("v/b", null)), members(named("v", members(named("c", three))), named("v", five)))
	checkNot(t, members(named("v", five), named("v", v)), members(named("v/a", null)))
}

// P9.1: the kind alone tells whether a value is null, a map, or another one;
// what a kind doesn't have is not there, and is put in as it is.
func TestOdd(t *testing.T) {
	v := value(`{"a":1,"m":{"b":2}}`)
	for _, x := range []api.Value{{}, {Kind: -1}, {Kind: 7}, {Kind: 1<<32 + 1}, {Kind: 1<<32 + 6}, {Kind: math.MaxInt}, {Kind: math.MinInt}, {N: 1}, {S: "null"}, {Kind: 7, N: 1, S: "a"}, {Kind: api.Bool, N: 2}, {Kind: api.Int, N: math.MinInt64, S: "0"}, {Kind: api.Text, N: 1, S: "\xff"}, {Kind: api.List, N: 1, S: "a"}, {Kind: api.Map, N: 1, S: "b"}} {
		strays := []api.Value{x, x, x}
		strays[1].L, strays[2].M = []api.Value{text("x")}, []api.Member{named("b", text("y"))}
		for _, y := range strays {
			check(t, v, members(named("a", y)), members(named("a", y), named("m", value(`{"b":2}`))))
			check(t, v, members(named("m/b", y)), members(named("a", number(1)), named("m", members(named("b", y)))))
			check(t, v, members(named("m/c", y), named("a", null)), members(named("m", members(named("b", number(2)), named("c", y)))))
			there := members(named("c", number(3)), named("a", y))
			check(t, there, members(named("a", null)), value(`{"c":3}`))
			check(t, there, members(named("a", number(1))), value(`{"c":3,"a":1}`))
			check(t, there, members(named("c", number(4))), members(named("c", number(4)), named("a", y)))
			if y.Kind != api.Map {
				checkNot(t, there, members(named("a/b", null)))
				checkNot(t, there, members(named("a/b", number(1))))
				checkNot(t, there, members(named("a/0", number(1))))
			}
		}
	}
	for _, x := range []api.Value{{Kind: api.Null, N: 1}, {Kind: api.Null, S: "a"}, {Kind: api.Null, L: []api.Value{text("x")}}, {Kind: api.Null, M: []api.Member{named("x", text("y"))}}} {
		check(t, v, members(named("a", x)), value(`{"m":{"b":2}}`))
		check(t, v, members(named("m/b", x), named("c", x)), value(`{"a":1,"m":{}}`))
		checkNot(t, members(named("a", x)), members(named("a/x", null)))
		check(t, members(named("a", x)), members(named("b", number(1))), members(named("a", x), named("b", number(1))))
	}
	// A map and a patch have their members, whatever their N, S and L are.
	m := api.Value{Kind: api.Map, N: 1, S: "x", L: []api.Value{text("a")}, M: []api.Member{named("a", number(2)), named("b", number(3))}}
	check(t, v, m, value(`{"a":2,"m":{"b":2},"b":3}`))
	if got, e := patch.Apply(m, value(`{"a":1,"b":null,"c":4}`)); e != api.OK || !equal(members(got.M...), value(`{"a":1,"c":4}`)) {
		t.Errorf("of a map with more than members: %s, %d", show(got), e)
	}
}

// rightPath are the paths whose pointers are pointers.
var rightPath = regexp.MustCompile(`(?s)^([^~]|~[01])*$`)

// cut tells the parts of a path, if its pointer is one.
func cut(path string) ([]string, bool) {
	if !rightPath.MatchString(path) {
		return nil, false
	}
	parts := strings.Split(path, "/")
	for i, part := range parts {
		parts[i] = strings.ReplaceAll(strings.ReplaceAll(part, "~1", "/"), "~0", "~")
	}
	return parts, true
}

// place tells the map in v, of which the list of members may be written to,
// that all parts but the last lead to; nil, if they don't.
func place(v *api.Value, parts []string) *api.Value {
	for _, part := range parts[:len(parts)-1] {
		i := slices.IndexFunc(v.M, func(m api.Member) bool { return m.Name == part })
		if v.Kind != api.Map || i < 0 {
			return nil
		}
		v = &v.M[i].Val
	}
	if v.Kind != api.Map {
		return nil
	}
	return v
}

// applied is what Apply ought to tell: of a copy of v the places are written
// to, one behind the other.
func applied(v, p api.Value) (api.Value, string) {
	v = tree.Copy(v)
	if v.Kind != api.Map || p.Kind != api.Map {
		return api.Value{}, "no map"
	}
	if len(p.M) > api.MaxSize {
		return api.Value{}, "many"
	}
	var all [][]string
	for _, m := range p.M {
		parts, ok := cut(m.Name)
		if !ok {
			return api.Value{}, "no pointer"
		}
		all = append(all, parts)
	}
	for i, a := range all {
		for j, b := range all {
			if i != j && len(a) <= len(b) && slices.Equal(a, b[:len(a)]) {
				return api.Value{}, "beginning"
			}
		}
	}
	for _, parts := range all {
		if place(&v, parts) == nil {
			return api.Value{}, "no way"
		}
	}
	for i, m := range p.M {
		at, name := place(&v, all[i]), all[i][len(all[i])-1]
		is := func(m api.Member) bool { return m.Name == name }
		j := slices.IndexFunc(at.M, is)
		switch {
		case m.Val.Kind == api.Null:
			at.M = slices.DeleteFunc(at.M, is)
		case j >= 0:
			at.M[j].Val = m.Val
		default:
			at.M = append(at.M, named(name, m.Val))
		}
	}
	return v, ""
}

// anyName tells a name by chance, one of few.
func anyName(random *rand.Rand) string {
	return []string{"a", "", "b", "~", "/", "ab", "0", "c"}[random.Intn(8)]
}

// anyValue tells a value by chance, mostly of maps that lie so deep.
func anyValue(random *rand.Rand, deep int) api.Value {
	if deep == 0 {
		return []api.Value{value(`1`), value(`"a"`), null, value(`[]`), value(`{}`), {}, value(`[{"a":1}]`), value(`{"a":null}`)}[random.Intn(8)]
	}
	v := members()
	for range 1 + random.Intn(3) {
		v.M = append(v.M, named(anyName(random), anyValue(random, max(0, deep-1-random.Intn(6)/5))))
	}
	if random.Intn(15) == 0 {
		return list(v)
	}
	return v
}

// anyPath tells a path by chance, which mostly leads from a value.
func anyPath(random *rand.Rand, v api.Value) string {
	var parts []string
	for {
		part := anyName(random)
		if len(v.M) > 0 && random.Intn(2) > 0 {
			part = v.M[random.Intn(len(v.M))].Name
		}
		parts = append(parts, strings.ReplaceAll(strings.ReplaceAll(part, "~", "~0"), "/", "~1"))
		i := slices.IndexFunc(v.M, func(m api.Member) bool { return m.Name == part })
		if i < 0 || v.M[i].Val.Kind != api.Map || random.Intn(3) == 0 {
			break
		}
		v = v.M[i].Val
	}
	path := strings.Join(parts, "/")
	if random.Intn(25) == 0 {
		path += []string{"~", "~2", "/~", "/x/y", "/0/a", "/x/"}[random.Intn(6)]
	}
	return path
}

// anyPatch tells a patch by chance, which fits mostly.
func anyPatch(random *rand.Rand, v api.Value) api.Value {
	p := members()
	for range random.Intn(6) {
		x := null
		if random.Intn(3) > 0 {
			x = anyValue(random, random.Intn(3))
		}
		p.M = append(p.M, named(anyPath(random, v), x))
	}
	return p
}

// P9.1: values and patches by chance.
func TestByChance(t *testing.T) {
	random := rand.New(rand.NewSource(91))
	told := map[string]int{}
	for range 60000 {
		v := anyValue(random, 1+random.Intn(4))
		p := anyPatch(random, v)
		want, why := applied(v, p)
		if why != "" {
			checkNot(t, v, p)
		} else {
			check(t, v, p, want)
			if !equal(v, want) && len(p.M) > 1 {
				told["several"]++
			}
		}
		told[why]++
	}
	for _, why := range []string{"", "no map", "no pointer", "beginning", "no way", "several"} {
		if told[why] < 1000 {
			t.Errorf("told: %v", told)
		}
	}
}

// P9.2: the order of a patch's members changes the order of new members alone.
func TestOrder(t *testing.T) {
	v := value(`{"a":1,"m":{"b":2,"c":3},"d":4}`)
	check(t, v, value(`{"x":1,"y":2}`), value(`{"a":1,"m":{"b":2,"c":3},"d":4,"x":1,"y":2}`))
	check(t, v, value(`{"y":2,"x":1}`), value(`{"a":1,"m":{"b":2,"c":3},"d":4,"y":2,"x":1}`))
	check(t, v, value(`{"m/y":2,"d":5,"m/x":1,"a":null}`), value(`{"m":{"b":2,"c":3,"y":2,"x":1},"d":5}`))
	check(t, v, value(`{"a":null,"m/x":1,"d":5,"m/y":2}`), value(`{"m":{"b":2,"c":3,"x":1,"y":2},"d":5}`))
	random := rand.New(rand.NewSource(92))
	moved := 0
	for range 20000 {
		v := anyValue(random, 1+random.Intn(4))
		p := anyPatch(random, v)
		got, e := patch.Apply(v, p)
		other := tree.Copy(p)
		random.Shuffle(len(other.M), func(i, j int) { other.M[i], other.M[j] = other.M[j], other.M[i] })
		again, f := patch.Apply(v, other)
		if e != f || patch.Fits(v, p) != patch.Fits(v, other) {
			t.Fatalf("%s with %s: %d; with %s: %d", show(v), show(p), e, show(other), f)
		}
		if e != api.OK {
			continue
		}
		// New members of one name can't be two: so by names all is the same.
		if !equal(tree.Sort(got), tree.Sort(again)) {
			t.Fatalf("%s with %s: %s; with %s: %s", show(v), show(p), show(got), show(other), show(again))
		}
		if old := oldNames(v, got); !slices.Equal(old, oldNames(v, again)) {
			t.Fatalf("%s with %s: %s; with %s: %s; the old members %q", show(v), show(p), show(got), show(other), show(again), old)
		}
		if !equal(got, again) {
			moved++
		}
	}
	if moved < 500 {
		t.Errorf("moved: %d", moved)
	}
}

// oldNames tells the names of w's members that v has members of.
func oldNames(v, w api.Value) []string {
	var names []string
	for _, m := range w.M {
		if slices.ContainsFunc(v.M, func(x api.Member) bool { return x.Name == m.Name }) {
			names = append(names, m.Name)
		}
	}
	return names
}

// P9.1 and P1: values that lie as deep as the rules name, gone along by paths
// of as many parts.
func TestDeep(t *testing.T) {
	const deep = 1<<16 - 2
	v, want, gone, put := value(`{"a":1}`), value(`{"a":1,"b":2}`), value(`{}`), value(`2`)
	for range deep {
		v, want, gone, put = members(named("x", v)), members(named("x", want)), members(named("x", gone)), list(put)
	}
	way := strings.Repeat("x/", deep)
	check(t, v, members(named(way+"b", number(2))), want)
	check(t, v, members(named(way+"a", null)), gone)
	check(t, v, members(named(way+"b", null)), v)
	check(t, v, members(named("y", null)), v)
	check(t, v, members(named("x", put)), members(named("x", put)))
	checkNot(t, v, members(named(way+"a/b", null)))
	checkNot(t, v, members(named(way+"b/b", number(1))))
	checkNot(t, v, members(named(way+"b", number(1)), named(way+"b", null)))
	checkNot(t, v, members(named(way+"b", number(1)), named(way[:len(way)-1], null)))
	// As many long paths as there may be, all held against each other.
	p := members()
	for i := range 40 {
		p.M = append(p.M, named(way+"n"+strconv.Itoa(i), null))
	}
	check(t, v, p, v)
	p.M = append(p.M, named(strings.Repeat("x/", deep/2)+"x", null))
	checkNot(t, v, p)
}

// P9.1 and P1: maps of many members, and paths of many parts and bytes.
func TestMany(t *testing.T) {
	const n = 200000
	v := members()
	for i := range n {
		v.M = append(v.M, named("n"+strconv.Itoa(i), number(i)))
	}
	v.M[n/2].Val = value(`{"a":1}`)
	way := "n" + strconv.Itoa(n/2)
	want := tree.Copy(v)
	want.M[n/2].Val = value(`{"b":2}`)
	want.M = append(want.M[1:], named("x", number(3)))
	check(t, v, members(named(way+"/b", number(2)), named("n0", null), named(way+"/a", null), named("x", number(3))), want)
	for _, part := range []string{"/", "a/", "a", "~0", "~1", "*/", "0/"} {
		path := strings.Repeat(part, 1<<20)
		if strings.Contains(part, "/") {
			checkNot(t, value(`{"":{},"a":{},"0":{},"*":{}}`), members(named(path, null)))
		} else {
			check(t, members(), members(named(path, null)), members())
			check(t, members(), members(named(path+"x", null), named("x"+path, number(1))), members(named("x"+strings.NewReplacer("~0", "~", "~1", "/").Replace(path), number(1))))
		}
		checkNot(t, value(`{"":{},"a":{}}`), members(named(path+"~", null)))
		checkNot(t, members(), members(named(path, null), named(path, null)))
	}
}

// The section 'Examples'.
func TestExamples(t *testing.T) {
	v := value(`{"a":{"b":1},"c":2}`)
	check(t, v, value(`{"a/b":null,"c":3,"d":4}`), value(`{"a":{},"c":3,"d":4}`))
	for _, s := range []string{`{"a/x/y":1}`, `{"c/d":1}`, `{"a":1,"a/b":2}`, `{"a~2":1}`} {
		checkNot(t, v, value(s))
	}
}

// roomy is a value of new memory, whose lists have room to spare, with
// something in it.
func roomy(v api.Value) api.Value {
	l := make([]api.Value, 0, len(v.L)+2)
	for _, x := range v.L {
		l = append(l, roomy(x))
	}
	m := make([]api.Member, 0, len(v.M)+2)
	for _, x := range v.M {
		m = append(m, named(x.Name, roomy(x.Val)))
	}
	copy(l[len(l):cap(l)], []api.Value{text("spare"), list()})
	copy(m[len(m):cap(m)], []api.Member{named("spare", list()), named("b", list())})
	v.L, v.M = l, m
	return v
}

// whole is a value of new memory that has what another has, its lists' room
// to spare among it.
func whole(v api.Value) api.Value {
	w := v
	w.L, w.M = nil, nil
	for _, x := range v.L[:cap(v.L)] {
		w.L = append(w.L, whole(x))
	}
	for _, x := range v.M[:cap(v.M)] {
		w.M = append(w.M, named(x.Name, whole(x.Val)))
	}
	return w
}

// spoil writes over a value's lists and all that is in them, their room to
// spare too.
func spoil(v api.Value) {
	for i, x := range v.L[:cap(v.L)] {
		spoil(x)
		v.L[:cap(v.L)][i] = text("spoiled")
	}
	for i, m := range v.M[:cap(v.M)] {
		spoil(m.Val)
		v.M[:cap(v.M)][i] = named("spoiled", text("spoiled"))
	}
}

// checkStays holds a value and a patch that are handed in, their spare room
// too, against what they were, also when what was answered is written over.
func checkStays(t *testing.T, v, p api.Value) {
	t.Helper()
	v, p = roomy(v), roomy(p)
	was, patchWas := whole(v), whole(p)
	stays := func(when string) {
		t.Helper()
		if !reflect.DeepEqual(whole(v), was) || !reflect.DeepEqual(whole(p), patchWas) {
			t.Fatalf("%s: what was handed in is %s, %s; it was %s, %s", when, show(whole(v)), show(whole(p)), show(was), show(patchWas))
		}
	}
	fits := patch.Fits(v, p)
	stays("Fits")
	got, e := patch.Apply(v, p)
	stays("Apply")
	first := tree.Copy(got)
	spoil(got)
	stays("Apply written over")
	again, f := patch.Apply(v, p)
	if f != e || !equal(again, first) || patch.Fits(v, p) != fits {
		t.Fatalf("asked again: %s, %d; first %s, %d", show(again), f, show(first), e)
	}
	// What is changed behind the call changes nothing of what was answered.
	spoil(v)
	spoil(p)
	if !equal(again, first) {
		t.Fatalf("Apply of %s, %s became %s; it was %s", show(was), show(patchWas), show(again), show(first))
	}
}

// P9.3: what is handed in stays; what is answered is new memory.
func TestStays(t *testing.T) {
	v := value(`{"a":{"b":{"c":[1,[2]]},"d":[3]},"e":{"f":{}},"g":[{"h":4}],"~":{"/":[5]}}`)
	for _, s := range []string{`{}`, `{"a":null}`, `{"x":null}`, `{"a/b/c":null}`, `{"a/b/x":null}`, `{"a":{"b":[6]}}`, `{"x":[[7]]}`, `{"a/b":{"x":[{"y":8}]}}`, `{"a/b/c":[9],"a/d":null,"e/f/x":[10],"y":{"z":[11]}}`, `{"~0/~1":[12],"g":[[13]]}`, `{"g/0":1}`, `{"a":1,"a/b":2}`, `{"~":1}`, `{"x/y":[1]}`, `[]`, `[{"a":1}]`} {
		checkStays(t, v, value(s))
		checkStays(t, value(s), v)
	}
	// What a kind doesn't have stays, too.
	for _, kind := range []int{0, -1, api.Null, api.Text, api.List, api.Map, 7} {
		x := api.Value{Kind: kind, L: []api.Value{list(text("x"))}, M: []api.Member{named("a", list(text("y")))}}
		checkStays(t, x, value(`{"a":1}`))
		checkStays(t, value(`{"a":1}`), x)
		checkStays(t, x, x)
		checkStays(t, members(named("a", x)), members(named("b", x)))
		checkStays(t, members(named("m", members(named("a", x)))), members(named("m/b", x), named("c", null)))
	}
	random := rand.New(rand.NewSource(93))
	for range 10000 {
		v := anyValue(random, 1+random.Intn(4))
		checkStays(t, v, anyPatch(random, v))
	}
}

// P9.3: no two lists of one answer share any memory, though those of what was
// handed in do, or are the same ones.
func TestApart(t *testing.T) {
	part := value(`{"l":[1,2],"m":{"n":[3]}}`)
	v := members(named("a", part), named("b", part), named("c", members(named("d", part), named("e", part))))
	got := apply(t, v, members(named("x", part), named("y", part), named("c/f", part), named("a/m/n", part), named("a/m/o", part)))
	want := value(`{"a":{"l":[1,2],"m":{"n":{"l":[1,2],"m":{"n":[3]}},"o":{"l":[1,2],"m":{"n":[3]}}}},"b":{"l":[1,2],"m":{"n":[3]}},"c":{"d":{"l":[1,2],"m":{"n":[3]}},"e":{"l":[1,2],"m":{"n":[3]}},"f":{"l":[1,2],"m":{"n":[3]}}},"x":{"l":[1,2],"m":{"n":[3]}},"y":{"l":[1,2],"m":{"n":[3]}}}`)
	for i := range got.M {
		if !equal(members(got.M[i:]...), members(want.M[i:]...)) {
			t.Fatalf("behind what was spoiled: %s; want %s", show(got.M[i:]), show(want.M[i:]))
		}
		if inner := got.M[i].Val; got.M[i].Name == "c" || got.M[i].Name == "a" {
			inner = inner.M[len(inner.M)-1].Val
			last := inner.M[len(inner.M)-1].Val
			others := tree.Copy(members(inner.M[:len(inner.M)-1]...))
			spoil(last)
			if !equal(members(inner.M[:len(inner.M)-1]...), others) {
				t.Fatalf("beside what was spoiled: %s; want %s", show(inner), show(others))
			}
		}
		spoil(got.M[i].Val)
	}
	if !equal(part, value(`{"l":[1,2],"m":{"n":[3]}}`)) {
		t.Fatalf("what was handed in became %s", show(part))
	}
	// A value that is its own patch.
	self := value(`{"a":{"b":[1]},"c":[2]}`)
	check(t, self, self, self)
	checkStays(t, self, self)
	spoil(apply(t, self, self))
	if !equal(self, value(`{"a":{"b":[1]},"c":[2]}`)) {
		t.Fatalf("what was handed in became %s", show(self))
	}
}
