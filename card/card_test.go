package card_test

import (
	"fmt"
	"math"
	"slices"
	"strings"
	"testing"

	"cardbox/api"
	"cardbox/card"
	"cardbox/read"
	"cardbox/schema"
	"cardbox/tree"
)

// value makes a value out of a text of JSON.
func value(s string) api.Value {
	v, at, e := read.Value(s)
	if e != api.OK {
		panic(fmt.Sprintf("%q: %d at %d", s, e, at))
	}
	return v
}

// text, number, truth, list and members make values that no text of JSON need
// have.
func text(s string) api.Value { return api.Value{Kind: api.Text, S: s} }

func number(n int64) api.Value { return api.Value{Kind: api.Int, N: n} }

func truth(n int64) api.Value { return api.Value{Kind: api.Bool, N: n} }

func list(l ...api.Value) api.Value { return api.Value{Kind: api.List, L: l} }

func members(m ...api.Member) api.Value { return api.Value{Kind: api.Map, M: m} }

// named makes a member.
func named(name string, v api.Value) api.Member { return api.Member{Name: name, Val: v} }

// null is the value null.
var null = api.Value{Kind: api.Null}

// more is a map with members behind its own, whatever their names are.
func more(v api.Value, m ...api.Member) api.Value {
	return members(slices.Concat(v.M, m)...)
}

// put is a map in which a name stands once, with a value.
func put(v api.Value, name string, x api.Value) api.Value {
	return more(tree.Without(v, name), named(name, x))
}

// long is a text of so many bytes.
func long(n int) string { return strings.Repeat("a", n) }

// show is what a message shows of a value.
func show(v any) string {
	s := fmt.Sprintf("%+q", fmt.Sprint(v))
	return s[:min(len(s), 400)]
}

// least is a right object of a type that has no more than it must.
func least(of string) api.Value {
	switch of {
	case "Card":
		return value(`{"uid":"u","version":"1.0"}`)
	case "AddressComponent":
		return value(`{"kind":"block","value":""}`)
	case "Anniversary":
		return value(`{"date":{},"kind":"birth"}`)
	case "EmailAddress":
		return value(`{"address":""}`)
	case "LanguagePref":
		return value(`{"language":"en"}`)
	case "Link":
		return value(`{"uri":"a:b"}`)
	case "Media":
		return value(`{"kind":"logo","uri":"a:b"}`)
	case "NameComponent":
		return value(`{"kind":"given","value":""}`)
	case "Nickname", "OrgUnit", "Title":
		return value(`{"name":""}`)
	case "Note":
		return value(`{"note":""}`)
	case "Phone":
		return value(`{"number":""}`)
	case "Timestamp":
		return value(`{"utc":"2000-01-01T00:00:00Z"}`)
	}
	return members()
}

// within is a right card but for what is wrong in an object of a type that lies
// within it, and the name of the card's member in which it lies.
func within(of string, v api.Value) (api.Value, string) {
	name := ""
	switch of {
	case "AddressComponent":
		v, name = members(named("a", members(named("components", list(v))))), "addresses"
	case "NameComponent":
		v, name = members(named("components", list(v))), "name"
	case "Name":
		name = "name"
	case "OrgUnit":
		v, name = members(named("o", members(named("units", list(v))))), "organizations"
	case "Timestamp", "PartialDate":
		v, name = members(named("a", put(least("Anniversary"), "date", v))), "anniversaries"
	default:
		for _, p := range schema.Props("Card") {
			if p.Arg == of {
				name = p.Name
			}
		}
		v = members(named("x", v))
	}
	return put(least("Card"), name, v), name
}

// checkRight holds Right against what is wanted.
func checkRight(t *testing.T, of string, v api.Value, want bool) {
	t.Helper()
	if got := card.Right(of, v); got != want {
		t.Fatalf("Right(%.60q, %s) = %t", of, show(v), got)
	}
}

// checkNames holds Check against the names that are wanted.
func checkNames(t *testing.T, v api.Value, want ...string) {
	t.Helper()
	if got := card.Check(v); !slices.Equal(got, want) {
		t.Fatalf("Check(%s) = %.400q; want %.400q", show(v), got, want)
	}
}

// checkObject holds Right of an object of a type, and Check of a card in which
// it lies, against what is wanted.
func checkObject(t *testing.T, of string, v api.Value, want bool) {
	t.Helper()
	checkRight(t, of, v, want)
	if of == "Timestamp" && !slices.ContainsFunc(v.M, func(m api.Member) bool { return m.Name == "@type" }) {
		// It is of another type within a card, unless it tells its own.
		v = more(v, named("@type", text(of)))
	}
	if of == "Card" {
		return
	}
	c, name := within(of, v)
	checkCard(t, c, name, want)
}

// checkMember holds an object of a type with a member's value against what is
// wanted.
func checkMember(t *testing.T, of, name string, x api.Value, want bool) {
	t.Helper()
	v := put(least(of), name, x)
	switch of {
	case "PartialDate":
		// What its members may be beside their form is told by dates alone.
		checkRight(t, of, v, want)
	case "Card":
		if name != "kind" {
			v = put(v, "kind", text("group"))
		}
		checkCard(t, v, name, want)
	default:
		checkObject(t, of, v, want)
	}
}

// checkCard holds Right and Check of a card that only a member of a name may be
// wrong in against what is wanted.
func checkCard(t *testing.T, v api.Value, name string, want bool) {
	t.Helper()
	checkRight(t, "Card", v, want)
	if want {
		checkNames(t, v)
	} else {
		checkNames(t, v, name)
	}
}

// eachProp calls f with each member of each type.
func eachProp(f func(of string, p schema.Prop)) {
	for _, of := range schema.Types() {
		for _, p := range schema.Props(of) {
			f(of, p)
		}
	}
}

// kinds are values of each kind, and of none, by their kinds.
func kinds() []api.Value {
	return []api.Value{
		null, truth(0), truth(1), number(0), number(1), number(50), number(-1), number(api.MaxSafe), text(""), text("a"), text("true"), text("1"), text("en"),
		list(), list(null), list(truth(1)), list(text("a")), list(members()), list(list()), members(), members(named("a", truth(1))), members(named("a", members())),
		{}, {Kind: -1}, {Kind: 7}, {Kind: 100}, {Kind: math.MaxInt}, {Kind: math.MinInt}, {N: 1}, {S: "a"}, {Kind: 7, N: 1, S: "a"},
		{Kind: api.Null, N: 1}, {Kind: api.Null, S: "a"}, {Kind: api.Int, S: "a:b"}, {Kind: api.Bool, S: "en"}, {Kind: api.List, N: 1, S: "a"},
	}
}

// kindOf is the kind that values of a form have.
func kindOf(form int) int {
	switch form {
	case 3:
		return api.Bool
	case 4, 5:
		return api.Int
	case 1, 2, 6, 7, 8, 9, 10, 11:
		return api.Text
	case 13:
		return api.List
	}
	return api.Map
}

// texts makes texts.
func texts(all ...string) []api.Value {
	var l []api.Value
	for _, s := range all {
		l = append(l, text(s))
	}
	return l
}

// numbers makes numbers.
func numbers(all ...int64) []api.Value {
	var l []api.Value
	for _, n := range all {
		l = append(l, number(n))
	}
	return l
}

// under makes maps, each of one name with a value.
func under(x api.Value, names ...string) []api.Value {
	var l []api.Value
	for _, name := range names {
		l = append(l, members(named(name, x)))
	}
	return l
}

// goodObjects are right objects of a type.
func goodObjects(of string) []api.Value {
	v := least(of)
	return []api.Value{
		v, more(v, named("@type", text(of))), more(v, named("@type", text(of)), named("@type", text(of))),
		more(v, named("a:b", null)), more(v, named("a:b", null), named("a:b", list(null)), named("@type:x", text("zz"))),
	}
}

// badObjects are maps that are no right objects of a type.
func badObjects(of string) []api.Value {
	v := least(of)
	all := []api.Value{
		more(v, named("zz", null)), more(v, named("", null)), more(v, named("@type", text("zz"))), more(v, named("@type", null)), more(v, named("@type", text(of)), named("@type", text(""))),
		more(v, named("a:", null)), more(v, named(":a", null)), more(v, named("@Type", text(of))),
	}
	for _, p := range schema.Props(of) {
		if p.Must {
			all = append(all, tree.Without(v, p.Name))
		}
		all = append(all, put(v, p.Name, null), more(put(v, p.Name, goodValues(p)[0]), named(p.Name, null)), put(v, p.Name, api.Value{}))
	}
	return all
}

// goodTexts are values that have the form 1, 2, or 6 to 11 of a member.
func goodTexts(p schema.Prop) []api.Value {
	switch p.Form {
	case 1:
		return texts("", "a", long(255), long(256), long(1023), long(1024), "\xff", "\x00", "\u00e9", "1:b c", strings.Repeat("\u00e9", 512))
	case 2:
		return texts("a", "ab", long(254), long(255), "\xff", "\x00", " ", "\u00e9", "#/", strings.Repeat("\u00e9", 127))
	case 6:
		return texts("a", "Z", "0", "-", "_", "C00000000001", "kind", long(254), long(255))
	case 7:
		return texts("2000-01-01T00:00:00Z", "0000-01-01T00:00:00Z", "9999-12-31T23:59:59.123456789Z", "2024-02-29T12:30:00.5Z")
	case 8:
		return texts("a:b", "mailto:a@b", "http://x/y?z#w", "a::", "a:"+long(254), "a:"+long(1021), "a:"+long(1022))
	case 9:
		return texts("a/b", "image/svg+xml", "1/2", long(127)+"/"+long(127))
	case 10:
		return texts("en", "de-CH", "abcdefgh-12345678", "ab"+strings.Repeat("-a", 511))
	}
	return texts(strings.Fields(p.Arg)...)
}

// badTexts are texts that don't have the form 1, 2, or 6 to 11 of a member.
func badTexts(p schema.Prop) []api.Value {
	switch p.Form {
	case 1:
		return texts(long(1025), long(1026), long(2048), long(65536), strings.Repeat("\u00e9", 513))
	case 2:
		return texts("", long(256), long(257), long(512), long(1024), long(1025), strings.Repeat("\u00e9", 128))
	case 6:
		return texts("", " ", "a b", "#a", "a/b", "a.b", "a:b", "@type", "\u00e9", "\x00", "\xff", long(256), long(1024), long(1025))
	case 7:
		return texts("", "2000-01-01", "2000-01-01T00:00:00", "2023-02-29T00:00:00Z", "2000-13-01T00:00:00Z", "2000-01-01T00:00:60Z", "2000-01-01T00:00:00.50Z", "10000-01-01T00:00:00Z", "2000-01-01t00:00:00Z", "2000-01-01T00:00:00+00:00", long(1025))
	case 8:
		return texts("", "a", "a:", ":b", "1:b", "a:b c", "a:\u00e9", "a:"+long(1023), "a:"+long(1024), "a:"+long(65534))
	case 9:
		return texts("", "a", "a/", "/b", "a/b/c", "a/b;c=d", long(128)+"/a", "a/"+long(128), long(512)+"/"+long(512))
	case 10:
		return texts("", "e", "de-", "1a", "en_US", "abcdefghi", "abc"+strings.Repeat("-a", 511), "ab"+strings.Repeat("-a", 512))
	}
	all := texts("", " ", "zz", "0", "1.", "true", "@type", p.Arg+" ", " "+p.Arg, p.Arg+" "+p.Arg, long(255), long(1025))
	for _, w := range strings.Fields(p.Arg) {
		all = append(all, texts(w+" ", " "+w, w+"x", "x"+w, w[1:], w[:len(w)-1], w+"\x00", w+" "+w, strings.Replace(w, w[:1], string([]byte{w[0] ^ 0x20}), 1))...)
	}
	if strings.Contains(p.Arg, " ") {
		all = append(all, text(p.Arg))
	}
	// A word may be the beginning of another one.
	return slices.DeleteFunc(all, func(v api.Value) bool { return slices.Contains(strings.Fields(p.Arg), v.S) })
}

// goodValues are values that have the form of a member.
func goodValues(p schema.Prop) []api.Value {
	words := strings.Fields(p.Arg)
	switch p.Form {
	case 3:
		return []api.Value{truth(0), truth(1)}
	case 4:
		return numbers(0, 1, 2, 31, 100, 101, 9999, 10000, 1<<32, api.MaxSafe, api.MaxSafe+1, math.MaxInt64)
	case 5:
		return numbers(1, 2, 50, 99, 100)
	case 12:
		return goodObjects(p.Arg)
	case 13:
		all := []api.Value{list(), list(goodObjects(p.Arg)...)}
		for _, v := range goodObjects(p.Arg) {
			all = append(all, list(v), list(v, v))
		}
		return all
	case 14, 15:
		return goodMaps(p)
	case 16:
		return append(under(truth(1), "a", " ", "@type", "kind", "\u00e9", "\xff", "\x00", long(254), long(255)), members(), members(named("b", truth(1)), named("a", truth(1))), members(named("a", truth(1)), named("a", truth(1))))
	case 17:
		all := members()
		for _, w := range words {
			all = more(all, named(w, truth(1)))
		}
		return append(under(truth(1), words...), members(), all, more(all, all.M...))
	case 18:
		return goodDates()
	}
	return goodTexts(p)
}

// goodMaps are values that have the form 14 or 15 of a member.
func goodMaps(p schema.Prop) []api.Value {
	v := least(p.Arg)
	all := append(under(v, "a", "-", "_", "0", "kind", "Z9", long(254), long(255)), members(), members(named("b", v), named("a", v)), members(named("a", v), named("a", v)))
	if p.Form == 15 {
		all = append(all, under(v, " ", "@type", "a b", "\u00e9", "\xff", "\x00", "a:b", "#a", "/")...)
	}
	for _, x := range goodObjects(p.Arg) {
		all = append(all, members(named("a", x)), members(named("a", v), named("b", x)))
	}
	return all
}

// badValues are values of the right kind that don't have the form of a member.
func badValues(p schema.Prop) []api.Value {
	words := strings.Fields(p.Arg)
	switch p.Form {
	case 3:
		return nil
	case 4:
		return numbers(-1, -2, -100, -1<<32, -api.MaxSafe, math.MinInt64)
	case 5:
		return numbers(-1, 0, 101, 102, 256, 257, 1<<32+1, api.MaxSafe, -100, math.MaxInt64, math.MinInt64)
	case 12:
		return badObjects(p.Arg)
	case 13:
		var all []api.Value
		v := least(p.Arg)
		for _, x := range slices.Concat(badObjects(p.Arg), []api.Value{null, text(""), list(), list(v), {}}) {
			all = append(all, list(x), list(v, x), list(x, v), list(v, x, v))
		}
		return all
	case 14, 15:
		return badMaps(p)
	case 16:
		all := under(truth(1), "", long(256), long(257), long(1024), strings.Repeat("\u00e9", 128))
		return append(all, badTruths("a", "b")...)
	case 17:
		all := under(truth(1), "", " ", "zz", "@type", words[0]+" ", " "+words[0], words[0]+"x", strings.ToUpper(words[0]), words[0][1:], p.Arg, "a:b", long(255))
		return slices.Concat(all, badTruths(words[0], words[1]), badTruths(words[len(words)-1], words[0]), []api.Value{members(named(words[0], truth(1)), named("zz", truth(1)))})
	case 18:
		return badDates()
	}
	return badTexts(p)
}

// badTruths are maps of names one of which isn't true.
func badTruths(a, b string) []api.Value {
	all := []api.Value{members(named(a, truth(1)), named(b, truth(0))), members(named(a, truth(0)), named(b, truth(1))), members(named(a, truth(1)), named(a, truth(0)))}
	for _, x := range []api.Value{truth(0), truth(2), truth(-1), null, number(1), text("true"), text(""), list(), list(truth(1)), members(), {}, {N: 1}, {Kind: api.Null, N: 1}} {
		all = append(all, members(named(a, x)))
	}
	return all
}

// badMaps are maps that don't have the form 14 or 15 of a member.
func badMaps(p schema.Prop) []api.Value {
	v := least(p.Arg)
	all := under(v, "", long(256), long(257), long(1024))
	if p.Form == 14 {
		all = append(all, under(v, " ", "@type", "a b", "\u00e9", "\xff", "\x00", "a:b", "#a", "/", "a.b", "a,b")...)
		all = append(all, members(named("a", v), named("b", v), named("c d", v)))
	}
	all = append(all, members(named("a", v), named("", v)))
	for _, x := range slices.Concat(badObjects(p.Arg), []api.Value{null, truth(1), text(""), list(), list(v), {}}) {
		all = append(all, members(named("a", x)), members(named("a", v), named("b", x)), members(named("a", x), named("b", v)), members(named("a", v), named("a", x)))
	}
	return all
}

// goodDates are dates.
func goodDates() []api.Value {
	var all []api.Value
	for _, s := range []string{
		`{}`, `{"year":0}`, `{"year":1}`, `{"year":1815}`, `{"year":9998}`, `{"year":9999}`, `{"month":1}`, `{"month":2}`, `{"month":11}`, `{"month":12}`, `{"day":1}`, `{"day":2}`, `{"day":30}`, `{"day":31}`,
		`{"year":1815,"month":12,"day":10}`, `{"day":31,"month":2,"year":0}`, `{"month":12,"day":31}`, `{"year":9999,"month":12,"day":31}`, `{"year":2023,"month":2,"day":29}`, `{"a:b":null}`, `{"year":5,"a:b":{"day":32}}`,
	} {
		v := value(s)
		all = append(all, v, more(v, named("@type", text("PartialDate"))), more(members(named("@type", text("PartialDate"))), v.M...), more(v, named("@type", text("PartialDate")), named("@type", text("PartialDate"))))
	}
	for _, s := range []string{`{"utc":"1852-11-27T00:00:00Z"}`, `{"utc":"0000-01-01T00:00:00Z"}`, `{"utc":"2000-01-01T00:00:00.5Z","a:b":1}`} {
		v := value(s)
		all = append(all, more(v, named("@type", text("Timestamp"))), more(members(named("@type", text("Timestamp"))), v.M...), more(v, named("@type", text("Timestamp")), named("@type", text("Timestamp"))))
	}
	return all
}

// badDates are maps that are no dates.
func badDates() []api.Value {
	var all []api.Value
	for _, s := range []string{
		`{"year":-1}`, `{"year":10000}`, `{"year":10001}`, `{"year":9007199254740991}`, `{"month":-1}`, `{"month":0}`, `{"month":13}`, `{"month":14}`, `{"month":9007199254740991}`, `{"day":-1}`, `{"day":0}`, `{"day":32}`, `{"day":33}`, `{"day":9007199254740991}`,
		`{"year":10000,"month":1,"day":1}`, `{"year":1,"month":13,"day":1}`, `{"year":1,"month":1,"day":32}`, `{"year":1,"month":0,"day":1}`, `{"year":1,"month":1,"day":0}`,
		`{"year":"1"}`, `{"month":null}`, `{"day":true}`, `{"year":[]}`, `{"hour":1}`, `{"utc":"2000-01-01T00:00:00Z"}`, `{"year":1,"utc":"2000-01-01T00:00:00Z"}`, `{"date":1}`, `{"calendarScale":"x"}`, `{"":1}`,
	} {
		v := value(s)
		all = append(all, v, more(v, named("@type", text("PartialDate"))), more(members(named("@type", text("PartialDate"))), v.M...), more(v, named("@type", text("zz"))))
	}
	for _, s := range []string{`{}`, `{"utc":""}`, `{"utc":"1852-11-31T00:00:00Z"}`, `{"utc":null}`, `{"utc":1}`, `{"year":1}`, `{"year":1,"utc":"2000-01-01T00:00:00Z"}`, `{"utc":"2000-01-01T00:00:00Z","zz":1}`, `{"utc":"2000-01-01T00:00:00Z","utcs":1}`} {
		v := value(s)
		all = append(all, more(v, named("@type", text("Timestamp"))), more(members(named("@type", text("Timestamp"))), v.M...))
	}
	year, utc := value(`{"year":1,"month":1,"day":1}`), value(`{"utc":"2000-01-01T00:00:00Z"}`)
	for _, x := range []api.Value{text("zz"), text(""), text("Card"), text("timestamp"), text("Timestamp "), text("partialDate"), text("Date"), null, number(1), truth(1), list(), list(text("Timestamp")), members(), {}, {S: "Timestamp"}, {Kind: api.Null, S: "Timestamp"}, {Kind: api.Null, S: "PartialDate"}} {
		all = append(all, members(named("@type", x)), more(year, named("@type", x)), more(utc, named("@type", x)))
		all = append(all, more(year, named("@type", text("PartialDate")), named("@type", x)), more(utc, named("@type", text("Timestamp")), named("@type", x)), more(utc, named("@type", x), named("@type", text("Timestamp"))))
	}
	both := []api.Member{named("@type", text("Timestamp")), named("@type", text("PartialDate"))}
	for _, v := range []api.Value{members(), year, utc} {
		all = append(all, more(v, both[0], both[1]), more(v, both[1], both[0]))
	}
	return append(all, more(year, named("@type", text("Timestamp"))), more(utc, named("@type", text("PartialDate"))))
}

// P14.1: of each member of each type, values that have its form.
func TestForms(t *testing.T) {
	var seen [19]int
	eachProp(func(of string, p schema.Prop) {
		for _, x := range goodValues(p) {
			checkMember(t, of, p.Name, x, true)
			seen[p.Form]++
		}
	})
	for form, n := range seen[1:] {
		if n < 4 {
			t.Errorf("form %d was seen %d times", form+1, n)
		}
	}
}

// P14.1: of each member of each type, values that don't have its form.
func TestNotForms(t *testing.T) {
	eachProp(func(of string, p schema.Prop) {
		for _, x := range badValues(p) {
			checkMember(t, of, p.Name, x, false)
		}
	})
}

// P14.1: of each member of each type, values of another kind than its form
// asks.
func TestOtherKinds(t *testing.T) {
	eachProp(func(of string, p schema.Prop) {
		for _, x := range slices.Concat(kinds(), goodValues(p), texts(strings.Fields(p.Arg)...)) {
			if x.Kind != kindOf(p.Form) {
				checkMember(t, of, p.Name, x, false)
			}
		}
		for _, x := range goodValues(p) {
			checkMember(t, of, p.Name, list(x), p.Form == 13 && len(x.M) > 0)
			for _, kind := range []int{0, -1, 1, 2, 3, 4, 5, 6, 7, 256 + x.Kind} {
				if wrong := (api.Value{Kind: kind, N: x.N, S: x.S}); kind != x.Kind && kind != kindOf(p.Form) {
					checkMember(t, of, p.Name, wrong, false)
				}
			}
		}
	})
}

// P14.1: each member that must be there left out, of each type; none of the
// others need be.
func TestMust(t *testing.T) {
	n := 0
	eachProp(func(of string, p schema.Prop) {
		v := tree.Without(put(least(of), p.Name, goodValues(p)[0]), p.Name)
		if of == "Card" {
			checkRight(t, of, v, !p.Must)
		} else {
			checkObject(t, of, v, !p.Must)
		}
		if p.Must {
			n++
			checkRight(t, of, more(v, named("a:"+p.Name, goodValues(p)[0]), named("@type", text(of))), false)
		}
	})
	if n != 19 {
		t.Errorf("%d members must be there", n)
	}
	for _, of := range schema.Types() {
		must := slices.ContainsFunc(schema.Props(of), func(p schema.Prop) bool { return p.Must })
		checkRight(t, of, members(), !must)
		checkRight(t, of, members(named("@type", text(of))), !must)
		checkRight(t, of, least(of), true)
	}
	checkNames(t, value(`{"version":"1.0"}`), "uid")
	checkNames(t, value(`{"uid":"u"}`), "version")
	checkNames(t, members(), "uid", "version")
	checkNames(t, value(`{"@type":"Card","a:b":1}`), "uid", "version")
}

// P14.1: @type right, wrong and twice, of each type.
func TestTypes(t *testing.T) {
	for _, of := range schema.Types() {
		v := least(of)
		right := named("@type", text(of))
		for _, good := range []api.Value{v, more(v, right), more(members(right), v.M...), more(v, right, right), more(v, right, right, right)} {
			checkObject(t, of, good, true)
		}
		for _, x := range slices.Concat(kinds(), texts(of+" ", " "+of, strings.ToLower(of), of[1:], of[:len(of)-1], of+of, of+"\x00", "@type", "JSContact", "zz"), texts(schema.Types()...)) {
			if x.Kind == api.Text && x.S == of {
				continue
			}
			wrong := named("@type", x)
			for _, bad := range []api.Value{more(v, wrong), more(members(wrong), v.M...), more(v, right, wrong), more(v, wrong, right), more(v, wrong, wrong), more(v, right, right, wrong)} {
				checkObject(t, of, bad, false)
			}
		}
		checkObject(t, of, more(v, named("@type", api.Value{N: 4, S: of})), false)
	}
	c := least("Card")
	checkNames(t, more(c, named("@type", text("Card"))))
	for _, x := range []api.Value{text("card"), text(""), text("Name"), null, list(text("Card")), {S: "Card"}} {
		checkNames(t, more(c, named("@type", x)), "@type")
		checkNames(t, more(c, named("@type", text("Card")), named("@type", x)), "@type")
		checkNames(t, more(c, named("@type", x), named("@type", text("Card"))), "@type")
		checkNames(t, more(c, named("@type", x), named("@type", x)), "@type")
	}
}

// P14.1: Right of an object of one type as one of another.
func TestTypesOfOthers(t *testing.T) {
	for _, of := range schema.Types() {
		for _, other := range schema.Types() {
			checkRight(t, of, more(least(other), named("@type", text(of)), named("@type", text(other))), of == other)
			if of != other {
				checkRight(t, of, more(least(of), named("@type", text(other))), false)
			}
		}
	}
	for _, x := range []struct {
		of, v string
		want  bool
	}{
		{"Nickname", `{"name":"x"}`, true}, {"Title", `{"name":"x"}`, true}, {"OrgUnit", `{"name":"x"}`, true}, {"Organization", `{"name":"x"}`, true}, {"Card", `{"name":"x"}`, false}, {"Name", `{"name":"x"}`, false},
		{"NameComponent", `{"kind":"title","value":"x"}`, true}, {"AddressComponent", `{"kind":"title","value":"x"}`, false}, {"AddressComponent", `{"kind":"floor","value":"x"}`, true}, {"NameComponent", `{"kind":"floor","value":"x"}`, false},
		{"Link", `{"kind":"contact","uri":"a:b"}`, true}, {"Media", `{"kind":"contact","uri":"a:b"}`, false}, {"Media", `{"kind":"photo","uri":"a:b"}`, true}, {"Link", `{"kind":"photo","uri":"a:b"}`, false},
		{"Address", `{"contexts":{"billing":true}}`, true}, {"Organization", `{"contexts":{"billing":true}}`, false}, {"Organization", `{"contexts":{"work":true}}`, true},
		{"Card", `{"uid":"u","version":"1.0","kind":"org"}`, true}, {"Card", `{"uid":"u","version":"1.0","kind":"group","members":{"a":true}}`, true}, {"Card", `{"uid":"u","version":"1.0","kind":"birth"}`, false},
	} {
		checkRight(t, x.of, value(x.v), x.want)
	}
	// That members stand in groups alone is asked of cards by Check.
	c := value(`{"uid":"u","version":"1.0","members":{"a":true}}`)
	checkRight(t, "Card", c, true)
	checkNames(t, c, "members")
}

// P14.1: of what is no type there is no right object.
func TestNoType(t *testing.T) {
	values := append(kinds(), more(least("Card"), named("@type", text("zz"))))
	for _, of := range schema.Types() {
		values = append(values, least(of))
	}
	types := []string{"", "zz", "@type", "\x00", "\xff", " ", "kind", "Book", "JSCard", "AddressBook", strings.Join(schema.Types(), " "), long(1 << 20)}
	for _, of := range schema.Types() {
		types = append(types, of+" ", " "+of, strings.ToLower(of), strings.ToUpper(of), of[1:], of[:len(of)-1], of+of, of+"\x00", of+"s")
	}
	for _, of := range types {
		for _, v := range values {
			checkRight(t, of, v, false)
			checkRight(t, of, members(named("@type", text(of))), false)
		}
	}
}

// P14.1: Right and Check of what is no Map.
func TestNoMap(t *testing.T) {
	for _, v := range kinds() {
		if v.Kind == api.Map {
			continue
		}
		checkNames(t, v, "@type")
		for _, stray := range []api.Value{v, {Kind: v.Kind, N: v.N, S: v.S, M: least("Card").M}, {Kind: v.Kind, S: "Card"}} {
			checkNames(t, stray, "@type")
			for _, of := range schema.Types() {
				checkRight(t, of, stray, false)
			}
		}
	}
}

// P14.1: members of names of others may have any value; no other name may be
// there that the type hasn't.
func TestNames(t *testing.T) {
	for _, of := range schema.Types() {
		v := least(of)
		for _, name := range []string{"a:b", "example.com:foo", "@type:x", "a::", " : ", "\xff:\x00", "kind:x", "x:kind", "a:b:c", long(2000) + ":" + long(2000)} {
			for _, x := range slices.Concat(kinds(), texts(long(1<<16)), badObjects("Card"), []api.Value{list(list(list(members(named("zz", null))))), {Kind: api.Int, N: math.MinInt64}}) {
				checkObject(t, of, more(members(named(name, x)), v.M...), true)
			}
			checkObject(t, of, more(v, named(name, null), named(name, text("a"))), true)
		}
		names := []string{"", " ", "zz", ":", "a:", ":a", "::a", "@", "@Type", "type", "@type ", " @type", "id", "addressBookIds", "color", "\u00e9", "\xff", "a\uff1ab", long(255), long(2000)}
		eachProp(func(other string, p schema.Prop) {
			names = append(names, p.Name, p.Name+" ", " "+p.Name, p.Name+"s", p.Name[1:], p.Name+"\x00", strings.ToUpper(p.Name), other)
		})
		for _, name := range names {
			if _, is := schema.Find(of, name); is {
				continue
			}
			for _, x := range []api.Value{null, truth(1), text("a"), number(1), members(), list()} {
				checkObject(t, of, more(v, named(name, x)), false)
			}
			checkObject(t, of, more(members(named(name, null)), v.M...), false)
		}
	}
	c := least("Card")
	for _, name := range []string{"", "zz", ":", "a:", ":a", "@Type", "utc", "\xff", long(2000)} {
		checkNames(t, more(c, named(name, null)), name)
		checkNames(t, more(members(named(name, text("x"))), c.M...), name)
	}
}

// P14.1: members of one name twice, each of which is looked at.
func TestTwice(t *testing.T) {
	eachProp(func(of string, p schema.Prop) {
		v := tree.Without(least(of), p.Name)
		if of == "PartialDate" || of == "Card" && p.Name == "kind" {
			return
		}
		good, bad := goodValues(p), append(badValues(p), null)
		for _, x := range []struct {
			a, b api.Value
			want bool
		}{{good[0], good[0], true}, {good[0], good[len(good)-1], true}, {good[0], bad[0], false}, {bad[0], good[0], false}, {bad[0], bad[len(bad)-1], false}, {null, null, false}} {
			w := more(v, named(p.Name, x.a), named("a:b", null), named(p.Name, x.b))
			if of != "Card" {
				checkObject(t, of, w, x.want)
				continue
			}
			checkCard(t, put(w, "kind", text("group")), p.Name, x.want)
		}
	})
	c := least("Card")
	checkNames(t, more(c, named("zz", null), named("zz", null), named("zz", text("a"))), "zz")
	checkNames(t, more(c, named("uid", text("")), named("uid", null)), "uid")
	checkNames(t, more(c, named("uid", text("w"))))
	checkNames(t, members(named("version", text("1")), named("zz", null), named("version", text("2")), named("zz", null)), "uid", "version", "zz")
	checkNames(t, members(named("version", text("1")), named("version", text("1.0")), named("uid", text("u"))), "version")
	// Parts of dates.
	for _, name := range []string{"year", "month", "day"} {
		for _, x := range []struct {
			a, b int64
			want bool
		}{{1, 2, true}, {10000, 1, false}, {1, -1, false}, {-1, 1, false}} {
			date := members(named(name, number(x.a)), named("a:b", null), named(name, number(x.b)))
			checkRight(t, "Anniversary", put(least("Anniversary"), "date", date), x.want)
		}
	}
}

// P14.1: the names that Check tells rise, byte by byte, each once.
func TestCheckOrder(t *testing.T) {
	for _, x := range []struct{ v, want string }{
		{`{"uid":"","x":1}`, "uid version x"},
		{`{"version":"2.0","uid":"u"}`, "version"},
		{`{"zz":1,"uid":"u","b":1,"version":"1.0","a":1,"Z":1,"aa":1,"_":1}`, "Z _ a aa b zz"},
		{`{"@type":"card","uid":1,"version":1,"kind":"","members":1,"name":1,"é":1,"titles":1,"A":1}`, "@type A kind members name titles uid version é"},
		{`{"updated":"","created":"","language":"e","prodId":1,"keywords":{"":true},"uid":"u","version":"1.0"}`, "created keywords language prodId updated"},
		{`{"titles":{"t":{}},"phones":{"p":{}},"notes":{"n":{}},"emails":{"e":{}},"addresses":{"a":{"x":1}},"uid":"u"}`, "addresses emails notes phones titles version"},
		{`{"relatedTo":{"":{}},"organizations":[],"onlineServices":{"o":[]},"nicknames":{"n":{}},"media":{"m":{}},"links":{"l":{}},"anniversaries":{"a":{}},"preferredLanguages":{"p":{}}}`, "anniversaries links media nicknames onlineServices organizations preferredLanguages relatedTo uid version"},
		{`{"uid":"u","version":"1.0","a:b":1,"a:":1,":b":1,":":1,"@":1}`, ": :b @ a:"},
	} {
		checkNames(t, value(x.v), strings.Fields(x.want)...)
	}
	checkNames(t, members(named("\xff", null), named("", null), named("\x00", null), named("uid", null), named("\u00e9", null), named("", null), named("uid", null), named("\xff", null)), "", "\x00", "uid", "version", "\u00e9", "\xff")
	// Whatever the order is that they stand in.
	c := least("Card")
	eachProp(func(of string, p schema.Prop) {
		if of != "Card" || p.Name == "uid" {
			return
		}
		want := []string{"uid", p.Name}
		slices.Sort(want)
		bad := put(put(c, "kind", text("group")), p.Name, null)
		checkNames(t, put(bad, "uid", null), want...)
		checkNames(t, more(members(named("uid", null)), tree.Without(bad, "uid").M...), want...)
		checkNames(t, tree.Without(bad, "uid"), want...)
	})
}

// P14.1: members stand in groups alone.
func TestMembers(t *testing.T) {
	for _, x := range []struct{ v, want string }{
		{`{"kind":"group","members":{}}`, ""}, {`{"kind":"group","members":{"x":true,"y z":true}}`, ""}, {`{"members":{"x":true},"kind":"group"}`, ""}, {`{"kind":"group"}`, ""}, {`{"kind":"org"}`, ""},
		{`{"members":{}}`, "members"}, {`{"members":{"x":true}}`, "members"}, {`{"kind":"individual","members":{}}`, "members"}, {`{"kind":"org","members":{"x":true}}`, "members"}, {`{"kind":"location","members":{}}`, "members"},
		{`{"kind":"Group","members":{}}`, "kind members"}, {`{"kind":"group ","members":{}}`, "kind members"}, {`{"kind":null,"members":{}}`, "kind members"}, {`{"kind":["group"],"members":{}}`, "kind members"},
		{`{"kind":"group","members":{"x":false}}`, "members"}, {`{"kind":"group","members":{"":true}}`, "members"}, {`{"kind":"group","members":[]}`, "members"}, {`{"kind":"group","members":null}`, "members"},
		{`{"kind":"org","members":null}`, "members"}, {`{"members":{"x":false}}`, "members"}, {`{"kind":"zz","members":[]}`, "kind members"}, {`{"a:kind":"group","members":{}}`, "members"},
	} {
		v := value(x.v)
		checkNames(t, more(v, least("Card").M...), strings.Fields(x.want)...)
		checkNames(t, more(least("Card"), v.M...), strings.Fields(x.want)...)
	}
	c, group, org, has := least("Card"), named("kind", text("group")), named("kind", text("org")), named("members", members())
	checkNames(t, more(c, group, org, has))
	checkNames(t, more(c, has, group, org, has))
	checkNames(t, more(c, org, group, has), "members")
	checkNames(t, more(c, org, has, group, has), "members")
	checkNames(t, more(c, has, has), "members")
	checkNames(t, more(c, group, has, named("members", null)), "members")
	for _, x := range []api.Value{{S: "group"}, {Kind: api.Null, S: "group"}, {Kind: api.Int, S: "group"}, {Kind: api.List, S: "group"}} {
		checkNames(t, more(c, named("kind", x), has), "kind", "members")
	}
}

// P14.1: objects within objects within lists and maps, wrong at the innermost
// place, and nowhere else.
func TestInnermost(t *testing.T) {
	for _, x := range []struct{ name, right, old, new string }{
		{"name", `{"components":[{"kind":"given","value":"Ada"},{"kind":"surname","value":"L"}]}`, `"surname"`, `"apartment"`},
		{"name", `{"components":[{"kind":"given","value":"Ada"},{"kind":"surname","value":"L"}]}`, `"L"`, `1`},
		{"name", `{"components":[{"kind":"given","value":"Ada"},{"@type":"NameComponent","kind":"surname","value":"L"}]}`, `"NameComponent"`, `"AddressComponent"`},
		{"addresses", `{"a":{"components":[{"kind":"name","value":"x"},{"kind":"number","value":"1"}]},"b":{"components":[{"kind":"floor","value":"1"}]}}`, `"floor"`, `"given"`},
		{"addresses", `{"a":{"components":[]},"b":{"contexts":{"work":true,"delivery":true}}}`, `true}}}`, `false}}}`},
		{"addresses", `{"a":{"coordinates":"geo:1,2"},"b":{"isOrdered":true}}`, `true`, `1`},
		{"organizations", `{"o":{"units":[{"name":"a"},{"name":"b","sortAs":"c"}]}}`, `"sortAs"`, `"sort"`},
		{"organizations", `{"o":{"units":[{"name":"a"},{"name":"b"}]}}`, `"name":"b"`, ``},
		{"anniversaries", `{"a":{"kind":"birth","date":{"year":1}},"b":{"kind":"death","date":{"month":12,"day":31}}}`, `31`, `32`},
		{"anniversaries", `{"a":{"kind":"birth","date":{"year":1}},"b":{"kind":"death","date":{"month":12}}}`, `12`, `13`},
		{"anniversaries", `{"a":{"kind":"birth","date":{"year":9999}}}`, `9999`, `10000`},
		{"anniversaries", `{"a":{"kind":"birth","date":{"@type":"Timestamp","utc":"2000-02-29T00:00:00Z"}}}`, `2000-`, `2001-`},
		{"anniversaries", `{"a":{"kind":"birth","date":{"@type":"Timestamp","utc":"2000-02-29T00:00:00Z"}}}`, `Timestamp`, `PartialDate`},
		{"relatedTo", `{"urn:x":{"relation":{"friend":true,"kin":true}},"y z":{"relation":{}}}`, `"kin"`, `"king"`},
		{"phones", `{"p":{"number":"1","features":{"main-number":true,"fax":true}}}`, `"main-number"`, `"main"`},
		{"media", `{"m":{"kind":"photo","uri":"a:b","mediaType":"image/png"}}`, `image/png`, `image`},
		{"links", `{"l":{"uri":"a:b","pref":100}}`, `100`, `101`},
		{"notes", `{"n":{"note":"x","created":"2000-01-01T00:00:00Z"}}`, `00Z`, `60Z`},
		{"titles", `{"t":{"name":"x","organizationId":"o-1"}}`, `o-1`, `o 1`},
		{"onlineServices", `{"s":{"uri":"a:b"}}`, `a:b`, `ab`},
		{"preferredLanguages", `{"l":{"language":"en-GB"}}`, `en-GB`, `en-`},
		{"nicknames", `{"n":{"name":"x","a:b":{"kind":1}}}`, `a:b`, `a.b`},
		{"emails", `{"e":{"address":"x","contexts":{"work":true}},"f":{"address":"y"}}`, `"f"`, `"f g"`},
		{"keywords", `{"a":true,"b":true}`, `"b":true`, `"b":false`},
	} {
		right, wrong := value(x.right), value(strings.Replace(x.right, x.old, x.new, 1))
		checkNames(t, more(least("Card"), named(x.name, right)))
		checkNames(t, more(least("Card"), named(x.name, wrong)), x.name)
		checkNames(t, more(members(named(x.name, wrong), named("zz", null)), least("Card").M...), x.name, "zz")
	}
}
