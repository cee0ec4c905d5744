package emit_test

import (
	"fmt"
	"math"
	"math/rand"
	"reflect"
	"slices"
	"strconv"
	"strings"
	"testing"
	"unicode/utf8"

	"cardbox/api"
	"cardbox/emit"
	"cardbox/read"
)

// null, truth, number, text, list and members make values.
func null() api.Value { return api.Value{Kind: api.Null} }

func truth(n int64) api.Value { return api.Value{Kind: api.Bool, N: n} }

func number(n int64) api.Value { return api.Value{Kind: api.Int, N: n} }

func text(s string) api.Value { return api.Value{Kind: api.Text, S: s} }

func list(l ...api.Value) api.Value { return api.Value{Kind: api.List, L: l} }

func members(m ...api.Member) api.Value { return api.Value{Kind: api.Map, M: m} }

// named makes a member.
func named(name string, v api.Value) api.Member { return api.Member{Name: name, Val: v} }

// equal tells whether two values have the same in all their fields; lists of
// nothing are one.
func equal(a, b api.Value) bool {
	return a.Kind == b.Kind && a.N == b.N && a.S == b.S && slices.EqualFunc(a.L, b.L, equal) &&
		slices.EqualFunc(a.M, b.M, func(x, y api.Member) bool { return x.Name == y.Name && equal(x.Val, y.Val) })
}

// show is what a message shows of a value.
func show(v api.Value) string {
	s := fmt.Sprint(v)
	return s[:min(len(s), 300)]
}

// checkBoth holds Check and Text against the error that is wanted, or, if it
// is OK, against the text; Long against long.
func checkBoth(t *testing.T, v api.Value, want api.Errno, long string) {
	t.Helper()
	if e := emit.Check(v); e != want {
		t.Fatalf("Check(%s) = %d; want %d", show(v), e, want)
	}
	wanted := long
	if want != api.OK {
		wanted = ""
	}
	if s, e := emit.Text(v); s != wanted || e != want {
		t.Fatalf("Text(%s) = %.300q, %d; want %.300q, %d", show(v), s, e, wanted, want)
	}
	if s := emit.Long(v); s != long {
		t.Fatalf("Long(%s) = %.300q; want %.300q", show(v), s, long)
	}
}

// checkText holds all three against the text of a right value.
func checkText(t *testing.T, v api.Value, want string) {
	t.Helper()
	checkBoth(t, v, api.OK, want)
}

// checkWrong holds all three against ErrArg of a value that is wrong by itself.
func checkWrong(t *testing.T, v api.Value) {
	t.Helper()
	checkBoth(t, v, api.ErrArg, "")
}

// quoter makes what stands between quotes of a text.
var quoter = func() *strings.Replacer {
	pairs := []string{`"`, `\"`, `\`, `\\`, "\b", `\b`, "\t", `\t`, "\n", `\n`, "\f", `\f`, "\r", `\r`}
	for c := range 0x20 {
		if !strings.ContainsRune("\b\t\n\f\r", rune(c)) {
			pairs = append(pairs, string(rune(c)), `\u00`+strconv.FormatInt(int64(c/16), 16)+strconv.FormatInt(int64(c%16), 16))
		}
	}
	return strings.NewReplacer(pairs...)
}()

func quoted(s string) string { return `"` + quoter.Replace(s) + `"` }

// textOf is the text that a value ought to have.
func textOf(v api.Value) string {
	var parts []string
	switch v.Kind {
	case api.Bool:
		return strconv.FormatBool(v.N != 0)
	case api.Int:
		return strconv.FormatInt(v.N, 10)
	case api.Text:
		return quoted(v.S)
	case api.List:
		for _, x := range v.L {
			parts = append(parts, textOf(x))
		}
		return "[" + strings.Join(parts, ",") + "]"
	case api.Map:
		for _, m := range v.M {
			parts = append(parts, quoted(m.Name)+":"+textOf(m.Val))
		}
		return "{" + strings.Join(parts, ",") + "}"
	}
	return "null"
}

// kept is a value with what its kind names alone; of no kind, another one.
func kept(v api.Value) api.Value {
	switch v.Kind {
	case api.Null:
		return null()
	case api.Bool:
		return truth(v.N)
	case api.Int:
		return number(v.N)
	case api.Text:
		return text(v.S)
	case api.List:
		return list(v.L...)
	case api.Map:
		return members(v.M...)
	}
	return api.Value{Kind: v.Kind - 1}
}

// isWrong tells whether a value is wrong by itself.
func isWrong(v api.Value) bool {
	k := kept(v)
	if v.Kind != k.Kind || v.N != k.N || v.S != k.S || len(v.L) != len(k.L) || len(v.M) != len(k.M) {
		return true
	}
	switch v.Kind {
	case api.Bool:
		return uint64(v.N) > 1
	case api.Int:
		return math.Abs(float64(v.N)) >= 1<<53
	case api.Map:
		var names []string
		for _, m := range v.M {
			names = append(names, m.Name)
		}
		slices.Sort(names)
		once := len(slices.Compact(slices.Clone(names))) == len(names)
		return len(names) <= api.MaxParts && (!once || !utf8.ValidString(strings.Join(names, " ")))
	}
	return !utf8.ValidString(v.S)
}

// laid is a value, and how deep it lies.
type laid struct {
	v    api.Value
	deep int
}

// inOrder are all values, a list and a map ahead of what is in them.
func inOrder(v api.Value) []laid {
	var row []laid
	open := []laid{{v, 1}}
	for len(open) > 0 {
		x := open[len(open)-1]
		open = open[:len(open)-1]
		row = append(row, x)
		for _, y := range slices.Backward(x.v.L) {
			open = append(open, laid{y, x.deep + 1})
		}
		for _, m := range slices.Backward(x.v.M) {
			open = append(open, laid{m.Val, x.deep + 1})
		}
	}
	return row
}

// errorOf is the error that Check ought to tell.
func errorOf(v api.Value) api.Errno {
	for i, x := range inOrder(v) {
		switch {
		case x.deep > 16:
			return api.ErrDeep
		case i >= 8192:
			return api.ErrMany
		case isWrong(x.v):
			return api.ErrArg
		}
	}
	return api.OK
}

// checkValue holds all three against errorOf and textOf, and tells the former.
func checkValue(t *testing.T, v api.Value) api.Errno {
	t.Helper()
	e, long := errorOf(v), ""
	if !slices.ContainsFunc(inOrder(v), func(x laid) bool { return isWrong(x.v) }) {
		long = textOf(v)
	}
	checkBoth(t, v, e, long)
	return e
}

// plain are values, none in another but those with no text of their own, with
// their texts.
var plain = []struct {
	v api.Value
	s string
}{
	{null(), "null"}, {truth(0), "false"}, {truth(1), "true"},
	{number(0), "0"}, {number(1), "1"}, {number(-1), "-1"}, {number(2), "2"}, {number(10), "10"}, {number(-4711), "-4711"},
	{number(api.MaxSafe), "9007199254740991"}, {number(-api.MaxSafe), "-9007199254740991"},
	{number(api.MaxSafe - 1), "9007199254740990"}, {number(1 - api.MaxSafe), "-9007199254740990"},
	{text(""), `""`}, {text("a"), `"a"`}, {text(" a b "), `" a b "`}, {text("null"), `"null"`}, {text("1"), `"1"`}, {text("[]"), `"[]"`},
	{text("\"\\/\b\t\n\f\r"), `"\"\\/\b\t\n\f\r"`}, {text("\x00\x1f\x0b\x20\x7f"), "\"\\u0000\\u001f\\u000b \x7f\""},
	{text("\u00e9\u2028\u20ac\ufeff\ufffd\U0001f600\U0010ffff<>&"), "\"\u00e9\u2028\u20ac\ufeff\ufffd\U0001f600\U0010ffff<>&\""},
	{list(), "[]"}, {members(), "{}"},
}

// wrong are values that are wrong by themselves.
var wrong = []api.Value{
	{}, {Kind: -1}, {Kind: 7}, {Kind: 8}, {Kind: 100}, {Kind: -6}, {Kind: math.MaxInt}, {Kind: math.MinInt}, {Kind: 1 << 8}, {Kind: 1<<32 + 1}, {Kind: -1 << 32},
	{S: "a"}, {N: 1}, {L: []api.Value{null()}}, {M: []api.Member{named("a", null())}}, {Kind: 7, S: "a"}, {Kind: 7, L: []api.Value{null()}},
	truth(-1), truth(2), truth(3), truth(256), truth(257), truth(1 << 32), truth(1<<32 + 1), truth(math.MaxInt64), truth(math.MinInt64),
	number(api.MaxSafe + 1), number(-api.MaxSafe - 1), number(api.MaxSafe + 2), number(math.MaxInt64), number(math.MinInt64), number(math.MinInt64 + 1), number(1 << 62),
	text("\xff"), text("a\xc0\x80"), text("\x80b"), text("\xed\xa0\x80"), text("\xf4\x90\x80\x80"), text("ab\xc3"), text("\u00e9\xe2\x82"), text("\n\xfe"), text("\x00\xff"),
	members(named("\xff", null())), members(named("a\xc0\x80", null())), members(named("a\xc3", null())), members(named("a", null()), named("\xed\xbf\xbf", null())),
	members(named("a", null()), named("a", null())), members(named("", null()), named("", null())), members(named("a", number(1)), named("a", list())),
}

// P6.1: each kind of value.
func TestEachKind(t *testing.T) {
	for _, x := range plain {
		checkText(t, x.v, x.s)
	}
}

// P6.1: values in lists and maps, one and two.
func TestEachWithin(t *testing.T) {
	for _, x := range plain {
		checkText(t, list(x.v), "["+x.s+"]")
		checkText(t, list(list(x.v)), "[["+x.s+"]]")
		checkText(t, members(named("a", x.v)), `{"a":`+x.s+"}")
		checkText(t, members(named("", list(x.v))), `{"":[`+x.s+"]}")
		for _, y := range plain {
			checkText(t, list(x.v, y.v), "["+x.s+","+y.s+"]")
			checkText(t, list(list(x.v), y.v, x.v), "[["+x.s+"],"+y.s+","+x.s+"]")
			checkText(t, members(named("b", x.v), named("a", y.v)), `{"b":`+x.s+`,"a":`+y.s+"}")
			checkText(t, members(named("a", members(named("a", x.v))), named("b", y.v)), `{"a":{"a":`+x.s+`},"b":`+y.s+"}")
			checkText(t, list(members(named("a", list(x.v, y.v))), members()), `[{"a":[`+x.s+","+y.s+"]},{}]")
		}
	}
}

// P6.1: the document's examples, and members as they stand.
func TestValues(t *testing.T) {
	checkText(t, list(number(-1), members(named("a", truth(1)))), `[-1,{"a":true}]`)
	checkWrong(t, truth(2))
	checkText(t, members(named("z", number(1)), named("y", number(2)), named("a", number(3)), named("", number(4)), named("Z", number(5)), named("aa", number(6))),
		`{"z":1,"y":2,"a":3,"":4,"Z":5,"aa":6}`)
	checkText(t, list(number(3), number(1), number(2), number(1), number(3)), "[3,1,2,1,3]")
	checkText(t, list(list(), list(list()), list(members()), members()), "[[],[[]],[{}],{}]")
	checkText(t, list(text(","), text(":"), text("]")), `[",",":","]"]`)
}

// P6.1: lists and members that are empty are none, whatever room they have.
func TestEmptyLists(t *testing.T) {
	values, pairs := make([]api.Value, 0, 3), make([]api.Member, 0, 3)
	for _, x := range plain {
		v := x.v
		if len(v.L) == 0 {
			v.L = values
		}
		if len(v.M) == 0 {
			v.M = pairs
		}
		checkText(t, v, x.s)
		checkText(t, list(v, v), "["+x.s+","+x.s+"]")
		v.L, v.M = []api.Value{}, []api.Member{}
		checkText(t, v, x.s)
	}
}

// P6.1: numbers from -MaxSafe to MaxSafe, and those beyond; a Bool's N.
func TestNumbers(t *testing.T) {
	for shift := range 64 {
		for d := range int64(5) {
			n := int64(1)<<shift + d - 2
			for _, n := range []int64{n, -n} {
				checkNumber(t, n, -1<<53 < n && n < 1<<53)
			}
		}
	}
	for _, n := range []int64{math.MinInt64, math.MaxInt64, 1<<53 + 1<<20, 1e18, -1e18} {
		checkNumber(t, n, false)
	}
}

// checkNumber checks a number as an Int that is right or not, and as a Bool.
func checkNumber(t *testing.T, n int64, right bool) {
	t.Helper()
	if right {
		checkText(t, number(n), strconv.FormatInt(n, 10))
	} else {
		checkWrong(t, number(n))
	}
	switch n {
	case 0:
		checkText(t, truth(n), "false")
	case 1:
		checkText(t, truth(n), "true")
	default:
		checkWrong(t, truth(n))
		checkWrong(t, list(truth(n)))
	}
}

// P6.1: texts and names are quoted, of all points below 800 and some above.
func TestQuoted(t *testing.T) {
	check := func(s string) {
		t.Helper()
		q := quoted(s)
		checkText(t, text(s), q)
		checkText(t, members(named(s, null())), "{"+q+":null}")
		checkText(t, members(named(s, text(s)), named(s+s+"a", text("a"+s))), "{"+q+":"+q+","+quoted(s+s+"a")+":"+quoted("a"+s)+"}")
	}
	for point := range rune(0x800) {
		check(string(point))
		check("a" + string(point) + "b")
	}
	for _, point := range []rune{0x800, 0x2028, 0x2029, 0xd7ff, 0xe000, 0xfeff, 0xfffd, 0xffff, 0x10000, 0x1f600, 0x10ffff} {
		check(string(point))
		check("\"" + string(point) + "\\" + string(point))
	}
	check(`\u0061`)
	check("\\\"\\\\\n\n\x00\x1f")
	check(strings.Repeat("a", 70000))
	check(strings.Repeat("\x01\"", 20000))
}

// P6.1: what no kind is.
func TestKinds(t *testing.T) {
	for kind := -300; kind <= 300; kind++ {
		want := ""
		if kind >= api.Null && kind <= api.Map {
			want = []string{"null", "false", "0", `""`, "[]", "{}"}[kind-1]
		}
		v := api.Value{Kind: kind}
		if want != "" {
			checkText(t, v, want)
			continue
		}
		checkWrong(t, v)
		checkWrong(t, list(v))
		checkWrong(t, members(named("a", v)))
	}
}

// nest puts a value so many times into a list, or, every other time, a map.
func nest(v api.Value, times int) api.Value {
	for i := range times {
		if i%2 == 0 {
			v = list(v)
		} else {
			v = members(named("a", v))
		}
	}
	return v
}

// P6.1: something in what the kind doesn't name is wrong, whatever it is: what
// is in it isn't looked at.
func TestOthers(t *testing.T) {
	many := slices.Repeat([]api.Value{null()}, api.MaxParts+1)
	pairs := slices.Repeat([]api.Member{named("a", null())}, api.MaxParts+1)
	for kind := api.Null; kind <= api.Map; kind++ {
		for _, more := range []api.Value{
			{N: 1}, {N: -1}, {N: api.MaxSafe + 1}, {N: 1 << 32}, {S: "a"}, {S: "\x00"}, {S: "\xff"},
			{L: []api.Value{null()}}, {L: []api.Value{{}}}, {L: []api.Value{nest(null(), 30)}}, {L: many},
			{M: []api.Member{named("a", null())}}, {M: []api.Member{named("\xff", api.Value{})}}, {M: []api.Member{named("", nest(null(), 30))}}, {M: pairs},
		} {
			if more.N != 0 && (kind == api.Bool || kind == api.Int) || more.S != "" && kind == api.Text || more.L != nil && kind == api.List || more.M != nil && kind == api.Map {
				continue
			}
			more.Kind = kind
			checkWrong(t, more)
			checkWrong(t, list(null(), more, null()))
			checkWrong(t, members(named("a", more)))
		}
	}
	// What the kind names is there too, and right.
	for _, x := range plain {
		for _, y := range plain {
			v := x.v
			v.N, v.S = v.N|y.v.N, v.S+y.v.S
			checkValue(t, v)
			v.L = []api.Value{y.v}
			checkValue(t, v)
			checkValue(t, list(v))
			v.L, v.M = nil, []api.Member{named("a", y.v)}
			checkValue(t, v)
			checkValue(t, list(v))
		}
	}
	for _, both := range []api.Value{
		{Kind: api.List, L: []api.Value{null()}, M: []api.Member{named("a", null())}}, {Kind: api.Map, L: []api.Value{null()}, M: []api.Member{named("a", null())}},
		{Kind: api.List, L: []api.Value{nest(null(), 30)}, M: []api.Member{named("a", null())}}, {Kind: api.Map, L: many, M: pairs},
	} {
		checkWrong(t, both)
	}
}

// P6.1: what is wrong by itself is so wherever it stands.
func TestWrongWithin(t *testing.T) {
	for _, v := range wrong {
		checkWrong(t, v)
		checkWrong(t, nest(v, api.MaxDepth-1))
		for _, x := range plain {
			checkWrong(t, list(v, x.v))
			checkWrong(t, list(x.v, v))
			checkWrong(t, list(x.v, list(v), x.v))
			checkWrong(t, members(named("a", v), named("b", x.v)))
			checkWrong(t, members(named("b", x.v), named("a", v)))
			checkWrong(t, members(named("b", x.v), named("a", members(named("a", x.v), named("b", v)))))
		}
	}
}

// P6.1: all texts of a few bytes, as a Text and as a name.
func TestBytes(t *testing.T) {
	pieces := []string{"a", "\"", "\n", "\x7f", "\x80", "\xbf", "\xc0", "\xc1", "\xc2", "\xe0", "\xed", "\xa0", "\xef", "\xf0", "\x90", "\xf4", "\xf5", "\xff"}
	rows := []string{""}
	for range 3 {
		var longer []string
		for _, s := range rows {
			for _, p := range pieces {
				longer = append(longer, s+p)
				checkValue(t, text(s+p))
				checkValue(t, members(named(s+p, null())))
				checkValue(t, members(named("b", null()), named(s+p, number(1))))
			}
		}
		rows = longer
	}
}

// P6.1: the same name in two maps is none twice; in one it is.
func TestNames(t *testing.T) {
	one := members(named("a", number(1)))
	checkText(t, list(one, one), `[{"a":1},{"a":1}]`)
	checkText(t, members(named("a", one), named("b", one)), `{"a":{"a":1},"b":{"a":1}}`)
	checkText(t, members(named("b", list(one, one)), named("a", one)), `{"b":[{"a":1},{"a":1}],"a":{"a":1}}`)
	checkText(t, members(named("a", text("a")), named("A", text("a")), named("a ", text("a")), named("", text("a")), named("\u00e9", null()), named("e\u0301", null())),
		"{\"a\":\"a\",\"A\":\"a\",\"a \":\"a\",\"\":\"a\",\"\u00e9\":null,\"e\u0301\":null}")
	for _, name := range []string{"", "a", "\n", "\u00e9", "name"} {
		checkWrong(t, members(named(name, one), named(name, one)))
		checkWrong(t, members(named(name, one), named("b", one), named(name, list())))
		checkWrong(t, members(named("b", one), named(name, null()), named(name, null())))
		checkWrong(t, members(named("b", members(named(name, null()), named(name, null())))))
		checkText(t, members(named("b", members(named(name, null()))), named(name, null())), `{"b":{`+quoted(name)+":null},"+quoted(name)+":null}")
	}
	m := numbered(500)
	checkValue(t, members(m...))
	for _, i := range []int{0, 1, 250, 498} {
		twice := slices.Clone(m)
		twice[499].Name = m[i].Name
		checkWrong(t, members(twice...))
	}
}

// numbered are so many members with unlike names.
func numbered(n int) []api.Member {
	var m []api.Member
	for i := range n {
		m = append(m, named("n"+strconv.Itoa(i), null()))
	}
	return m
}

// P6.1: what lies MaxDepth deep, and what lies deeper; Long writes all.
func TestDeep(t *testing.T) {
	const most = api.MaxDepth
	for _, times := range []int{most - 2, most - 1, most, most + 1, 100, 1000, 1<<16 - 1} {
		want := api.OK
		if times >= most {
			want = api.ErrDeep
		}
		lists, maps, open, end := list(), members(), strings.Repeat("[", times), strings.Repeat("]", times)
		for range times {
			lists, maps = list(lists), members(named("a", maps))
		}
		long := open + "[]" + end
		checkBoth(t, lists, want, long)
		checkBoth(t, maps, want, strings.NewReplacer("[]", "{}", "[", `{"a":`, "]", "}").Replace(long))
		if times <= 1000 {
			for _, x := range plain {
				checkValue(t, nest(x.v, times))
			}
		}
	}
	// What isn't within another doesn't make it lie deeper.
	v := list(nest(null(), 3), nest(null(), 14), nest(null(), 2))
	checkText(t, v, textOf(v))
	v = list(nest(null(), 14), nest(null(), 15), nest(null(), 2))
	checkBoth(t, v, api.ErrDeep, textOf(v))
	v = members(named("b", nest(null(), 14)), named("a", nest(null(), 15)))
	checkBoth(t, v, api.ErrDeep, textOf(v))
}

// P6.1: MaxParts values, and more; Long writes all.
func TestMany(t *testing.T) {
	const most = api.MaxParts
	for _, n := range []int{most - 2, most - 1, most, most + 1, 2 * most, 50000} {
		want := api.OK
		if n >= most {
			want = api.ErrMany
		}
		for _, x := range plain {
			v := list(slices.Repeat([]api.Value{x.v}, n)...)
			checkBoth(t, v, want, "["+strings.Repeat(x.s+",", n-1)+x.s+"]")
		}
		v := members(numbered(n)...)
		checkBoth(t, v, want, textOf(v))
	}
	// Lists and maps are values too, and so is what is in them.
	for n := most/2 - 2; n < most/2+2; n++ {
		v := list(append(slices.Repeat([]api.Value{list(null())}, n), null())...)
		checkValue(t, v)
		v.L = slices.Insert(v.L, 0, members(named("a", null())))
		checkValue(t, v)
		v = nest(list(append(slices.Repeat([]api.Value{list()}, n), v.L...)...), 5)
		checkValue(t, v)
	}
	// Names are none.
	v := list(append([]api.Value{members(numbered(5000)...)}, slices.Repeat([]api.Value{truth(1)}, most-5002)...)...)
	checkText(t, v, textOf(v))
	v.L = append(v.L, null())
	checkBoth(t, v, api.ErrMany, textOf(v))
}

// P6.1: the names of a map of MaxParts members are looked at, and of one more
// they aren't.
func TestManyMembers(t *testing.T) {
	const most = api.MaxParts
	spoiled := func(n, at int, name string) api.Value {
		m := numbered(n)
		m[at].Name = name
		return members(m...)
	}
	for _, n := range []int{most - 1, most, most + 1, most + 2, 3 * most} {
		for _, at := range []int{1, n / 2, n - 1} {
			for _, v := range []api.Value{spoiled(n, at, "n0"), spoiled(n, at, "\xff")} {
				if n <= most {
					checkWrong(t, v)
					checkWrong(t, list(v))
					continue
				}
				if e := emit.Check(v); e != api.ErrMany {
					t.Fatalf("%d members, a name wrong: %d", n, e)
				}
				if s, e := emit.Text(list(null(), v)); s != "" || e != api.ErrMany {
					t.Fatalf("%d members, a name wrong: %.80q, %d", n, s, e)
				}
			}
		}
	}
	// A name that is twice is no fault there, one that can't be quoted has no
	// text.
	v := spoiled(most+1, most, "n0")
	checkBoth(t, v, api.ErrMany, textOf(v))
	v = list(v, null())
	checkBoth(t, v, api.ErrMany, textOf(v))
	checkBoth(t, spoiled(most+1, 5, "\xff"), api.ErrMany, "")
	checkBoth(t, list(spoiled(most+1, most, "a\xc3")), api.ErrMany, "")
	// What else is wrong by itself is told, of the map and of what is in it.
	v = spoiled(most+1, 1, "n0")
	v.N = 1
	checkWrong(t, v)
	v.N, v.M[0].Val = 0, truth(2)
	checkWrong(t, v)
	v.M[0].Val = null()
	v.M[most-2].Val = text("\xff")
	checkWrong(t, v)
	v.M[most-2].Val, v.M[most-1].Val = null(), text("\xff")
	checkBoth(t, v, api.ErrMany, "")
	v.M[most-1].Val, v.M[1].Val = null(), nest(null(), most)
	checkBoth(t, v, api.ErrDeep, textOf(v))
}

// P6.1: of a value that is wrong in several ways the first of ErrDeep, ErrMany
// and ErrArg; of several values the first one's, a list and a map ahead of
// what is in them.
func TestSeveral(t *testing.T) {
	const most = api.MaxDepth
	full := slices.Repeat([]api.Value{null()}, api.MaxParts-1)
	for _, w := range wrong {
		v := nest(w, most)
		checkBoth(t, v, api.ErrDeep, "")
		checkBoth(t, list(append(slices.Clone(full), w)...), api.ErrMany, "")
		checkBoth(t, list(append(slices.Clone(full), nest(w, most))...), api.ErrMany, "")
		checkBoth(t, list(append(slices.Clone(full[1:]), w)...), api.ErrArg, "")
		// As many values as may be, and the next one too deep.
		deepest := nest(w, most-1)
		checkBoth(t, list(append(slices.Clone(full[most:]), deepest)...), api.ErrDeep, "")
		checkBoth(t, list(append(slices.Clone(full[most-1:]), deepest)...), api.ErrDeep, "")
		checkBoth(t, list(append(slices.Clone(full[most-2:]), deepest)...), api.ErrMany, "")
		checkBoth(t, list(w, deepest), api.ErrArg, "")
		checkBoth(t, list(deepest, w), api.ErrDeep, "")
		checkBoth(t, list(list(w), deepest), api.ErrArg, "")
		checkBoth(t, list(list(deepest), w), api.ErrDeep, "")
		checkBoth(t, members(named("b", deepest), named("a", w)), api.ErrDeep, "")
		checkBoth(t, members(named("b", w), named("a", deepest)), api.ErrArg, "")
		checkBoth(t, members(named("a", deepest), named("a", w)), api.ErrArg, "")
		checkBoth(t, api.Value{Kind: api.List, N: 1, L: []api.Value{deepest}}, api.ErrArg, "")
		checkBoth(t, list(api.Value{Kind: api.Map, S: "a", M: []api.Member{named("a", deepest)}}), api.ErrArg, "")
		checkBoth(t, list(append([]api.Value{w}, full...)...), api.ErrArg, "")
		checkBoth(t, list(append([]api.Value{deepest}, full...)...), api.ErrDeep, "")
	}
	// Too many, and only then too deep: what is first is told.
	v := list(append(slices.Clone(full), nest(null(), most))...)
	checkBoth(t, v, api.ErrMany, textOf(v))
	v = list(append([]api.Value{nest(null(), most)}, full...)...)
	checkBoth(t, v, api.ErrDeep, textOf(v))
}

// anyName tells a name by chance, once in a while a wrong one.
func anyName(random *rand.Rand, wrongs int) string {
	if wrongs > 0 && random.Intn(wrongs) == 0 {
		return "\xfe"
	}
	return []string{"a", "b", "", "\n", "\"", "\u00e9", "c", "d", "e", "name", "\x1f", "\U0001f600"}[random.Intn(12)]
}

// anyValue tells a value by chance, of parts no more than deep within one
// another; one of so many is wrong by itself (0: none).
func anyValue(random *rand.Rand, deep, wrongs int) api.Value {
	if wrongs > 0 && random.Intn(wrongs) == 0 {
		return wrong[random.Intn(len(wrong))]
	}
	kind := random.Intn(8)
	if deep == 0 || kind < 3 {
		return plain[random.Intn(len(plain))].v
	}
	if kind < 5 {
		v := list()
		for range random.Intn(5) {
			v.L = append(v.L, anyValue(random, deep-1, wrongs))
		}
		return v
	}
	v, names := members(), map[string]bool{}
	for range random.Intn(5) {
		name := anyName(random, wrongs)
		if names[name] && wrongs == 0 {
			continue
		}
		names[name] = true
		v.M = append(v.M, named(name, anyValue(random, deep-1, wrongs)))
	}
	return v
}

// P6.1: values by chance, also with wrong ones in them, and deep ones.
func TestByChance(t *testing.T) {
	random := rand.New(rand.NewSource(6))
	told := map[api.Errno]int{}
	for i := range 8000 {
		v := nest(anyValue(random, 6, i%4*20), random.Intn(15))
		told[checkValue(t, v)]++
		if random.Intn(40) == 0 {
			n := api.MaxParts - 50 + random.Intn(50)
			told[checkValue(t, list(append(slices.Repeat([]api.Value{null()}, n), v)...))]++
		}
	}
	for _, e := range []api.Errno{api.OK, api.ErrArg, api.ErrDeep, api.ErrMany} {
		if told[e] < 20 {
			t.Errorf("error %d was told %d times", e, told[e])
		}
	}
}

// checkReadBack holds the value that is read from the text of a right value
// against that value.
func checkReadBack(t *testing.T, v api.Value) {
	t.Helper()
	s, e := emit.Text(v)
	if e != api.OK {
		t.Fatalf("Text(%s) = %d", show(v), e)
	}
	back, at, e := read.Value(s)
	if len(s) > api.MaxBytes {
		if e != api.ErrLong {
			t.Fatalf("%d bytes are read: %d", len(s), e)
		}
		return
	}
	if !equal(back, v) || e != api.OK {
		t.Fatalf("Value(%.300q) = %s, %d, %d; want %s", s, show(back), at, e, show(v))
	}
}

// P6.2: the value that is read from the text of a value is that value.
func TestReadBack(t *testing.T) {
	for _, x := range plain {
		for times := range api.MaxDepth {
			checkReadBack(t, nest(x.v, times))
		}
	}
	random := rand.New(rand.NewSource(62))
	for range 5000 {
		checkReadBack(t, nest(anyValue(random, 6, 0), random.Intn(10)))
	}
	for point := range rune(0x10000) {
		if utf8.ValidRune(point) {
			checkReadBack(t, members(named(string(point)+"a", text("a"+string(point)))))
		}
	}
	for _, n := range []int{api.MaxBytes - 3, api.MaxBytes - 2, api.MaxBytes - 1} {
		checkReadBack(t, text(strings.Repeat("a", n)))
	}
	checkReadBack(t, list(slices.Repeat([]api.Value{number(1)}, api.MaxParts-1)...))
	checkReadBack(t, members(numbered(4000)...))
	checkReadBack(t, list(slices.Repeat([]api.Value{number(api.MaxSafe)}, api.MaxParts-1)...))
}

// checkAgain holds the text of what is read from a text against what is
// wanted, and that of what is read from it against itself.
func checkAgain(t *testing.T, s, want string) {
	t.Helper()
	for _, from := range []string{s, want} {
		v, at, e := read.Value(from)
		if e != api.OK {
			t.Fatalf("Value(%.300q) = %d, %d", from, at, e)
		}
		checkText(t, v, want)
	}
}

// P6.2: what is read from any text is written in one way.
func TestOneWay(t *testing.T) {
	for _, x := range []struct{ s, want string }{
		{" null\n", "null"}, {"\ttrue ", "true"}, {"false\r", "false"}, {"-0", "0"}, {" -7 ", "-7"}, {`""`, `""`},
		{` [ ] `, "[]"}, {"{\n}", "{}"}, {" [ 1 , 2 ] ", "[1,2]"}, {` { "b" : 1 , "a" : [ { } , null ] } `, `{"b":1,"a":[{},null]}`},
		{`"\u0061\/\u0022\u005C\u000A\u000d\u001F\u00e9\u20AC\ud83d\ude00"`, "\"a/\\\"\\\\\\n\\r\\u001f\u00e9\u20ac\U0001f600\""},
		{`{"\u0062\/":"\u0008\u0009\u000c\u007f"}`, "{\"b/\":\"\\b\\t\\f\x7f\"}"},
		{`["\u0000"]`, `["\u0000"]`}, {"[\"\u2028\",\"\\u2028\"]", "[\"\u2028\",\"\u2028\"]"},
		{"[9007199254740991,-9007199254740991]", "[9007199254740991,-9007199254740991]"},
		{strings.Repeat(" [", 16) + strings.Repeat(" ]", 16), strings.Repeat("[", 16) + strings.Repeat("]", 16)},
		{"[" + strings.Repeat("1 ,", api.MaxParts-2) + "1]", "[" + strings.Repeat("1,", api.MaxParts-2) + "1]"},
		{"{" + strings.Repeat(" ", api.MaxBytes-2) + "}", "{}"},
	} {
		checkAgain(t, x.s, x.want)
	}
	random := rand.New(rand.NewSource(63))
	for range 3000 {
		s := textOf(anyValue(random, 5, 0))
		checkAgain(t, spaced(random, s), s)
	}
}

// spaced puts white space around the marks of a text that stand in no quotes.
func spaced(random *rand.Rand, s string) string {
	gap := func() string { return []string{"", " ", "\n\t", "\r"}[random.Intn(4)] }
	b, inside := gap(), false
	for i := range len(s) {
		c := s[i : i+1]
		if c == `"` && s[max(i-1, 0)] != '\\' {
			inside = !inside
		}
		if !inside && strings.Contains("[]{}:,", c) {
			c = gap() + c + gap()
		}
		b += c
	}
	return b + gap()
}

// roomy is a value of new memory, whose lists have room to spare, with
// something in it.
func roomy(v api.Value) api.Value {
	v.S = strings.Clone(v.S)
	l := make([]api.Value, 0, len(v.L)+2)
	for _, x := range v.L {
		l = append(l, roomy(x))
	}
	m := make([]api.Member, 0, len(v.M)+2)
	for _, x := range v.M {
		m = append(m, named(strings.Clone(x.Name), roomy(x.Val)))
	}
	copy(l[len(l):cap(l)], []api.Value{text("spare"), number(7)})
	copy(m[len(m):cap(m)], []api.Member{named("spare", null()), named("b", number(7))})
	v.L, v.M = l, m
	return v
}

// whole is a value of new memory that has what another has, its lists' room
// to spare among it.
func whole(v api.Value) api.Value {
	w := v
	w.L, w.M = nil, nil
	for _, x := range v.L[:cap(v.L)] {
		w.L = append(w.L, whole(x))
	}
	for _, x := range v.M[:cap(v.M)] {
		w.M = append(w.M, named(x.Name, whole(x.Val)))
	}
	return w
}

// checkStays holds what is handed in, its spare room too, against what it was
// ahead of the calls, and the calls' answers against those of the first time.
func checkStays(t *testing.T, v api.Value) {
	t.Helper()
	v = roomy(v)
	ahead := whole(v)
	e, long := emit.Check(v), emit.Long(v)
	s, _ := emit.Text(v)
	for range 2 {
		if !reflect.DeepEqual(whole(v), ahead) {
			t.Fatalf("what was handed in is %s; it was %s", show(whole(v)), show(ahead))
		}
		checkBoth(t, v, e, long)
		if again, _ := emit.Text(v); again != s {
			t.Fatalf("Text is %.300q, and then %.300q", s, again)
		}
	}
}

// P6.3: what is handed in stays, right and wrong, deep and many.
func TestStays(t *testing.T) {
	for _, x := range plain {
		checkStays(t, x.v)
		checkStays(t, nest(x.v, 5))
		checkStays(t, nest(x.v, 30))
	}
	for _, v := range wrong {
		checkStays(t, v)
		checkStays(t, list(null(), members(named("b", number(1)), named("a", v)), text("\n")))
	}
	random := rand.New(rand.NewSource(64))
	for i := range 2000 {
		checkStays(t, anyValue(random, 5, i%3*20))
	}
	checkStays(t, members(numbered(api.MaxParts+1)...))
	m := numbered(api.MaxParts)
	slices.Reverse(m)
	checkStays(t, members(m...))
}

// P6.3 and the rules: nothing is kept of a value that is changed behind a call.
func TestNothingKept(t *testing.T) {
	v := members(named("b", list(number(1), text("x"))), named("a", null()))
	first, _ := emit.Text(v)
	long := emit.Long(v)
	v.M[0].Name, v.M[0].Val.L[0], v.M[1].Val = "c", number(2), truth(1)
	checkText(t, v, `{"c":[2,"x"],"a":true}`)
	if want := `{"b":[1,"x"],"a":null}`; first != want || long != want {
		t.Fatalf("the answers became %q and %q", first, long)
	}
	v.M[1].Name = "c"
	checkWrong(t, v)
	v.M[1].Name = "d"
	checkText(t, v, `{"c":[2,"x"],"d":true}`)
}

// P1: what has lists in common, again and again, ends as soon as it is too deep
// or too many; Long writes it all.
func TestInCommon(t *testing.T) {
	v := null()
	for range 60 {
		v = list(v, v)
	}
	if e := emit.Check(v); e != api.ErrDeep {
		t.Fatalf("Check is %d", e)
	}
	if s, e := emit.Text(v); s != "" || e != api.ErrDeep {
		t.Fatalf("Text is %.80q, %d", s, e)
	}
	v = null()
	for range 10 {
		v = members(named("a", list(v, v, v)), named("b", list(v)))
	}
	if s, e := emit.Text(v); s != "" || e != api.ErrDeep {
		t.Fatalf("Text is %.80q, %d", s, e)
	}
	v = number(7)
	for range 15 {
		v = list(v, v, v)
	}
	if e := emit.Check(v); e != api.ErrMany {
		t.Fatalf("Check is %d", e)
	}
	v = number(7)
	for range 17 {
		v = list(v, v)
	}
	checkBoth(t, v, api.ErrDeep, textOf(v))
}
