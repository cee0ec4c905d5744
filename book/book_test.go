package book_test

import (
	"fmt"
	"math"
	"math/rand"
	"slices"
	"strconv"
	"strings"
	"testing"

	"cardbox/api"
	"cardbox/book"
	"cardbox/emit"
	"cardbox/read"
	"cardbox/tree"
)

// value makes a value out of a text of JSON.
func value(s string) api.Value {
	v, at, e := read.Value(s)
	if e != api.OK {
		panic(fmt.Sprintf("%q: %d at %d", s, e, at))
	}
	return v
}

// text, number, truth, list and members make values that no text of JSON need
// have.
func text(s string) api.Value { return api.Value{Kind: api.Text, S: s} }

func number(n int64) api.Value { return api.Value{Kind: api.Int, N: n} }

func truth(n int64) api.Value { return api.Value{Kind: api.Bool, N: n} }

func list(l ...api.Value) api.Value { return api.Value{Kind: api.List, L: l} }

func members(m ...api.Member) api.Value { return api.Value{Kind: api.Map, M: m} }

// named makes a member.
func named(name string, v api.Value) api.Member { return api.Member{Name: name, Val: v} }

// null is the value null.
var null = api.Value{Kind: api.Null}

// more is a map with members behind its own, whatever their names are.
func more(v api.Value, m ...api.Member) api.Value {
	return members(slices.Concat(v.M, m)...)
}

// long is a text of so many bytes.
func long(n int) string { return strings.Repeat("a", n) }

// texts makes texts.
func texts(all ...string) []api.Value {
	var l []api.Value
	for _, s := range all {
		l = append(l, text(s))
	}
	return l
}

// numbers makes numbers.
func numbers(all ...int64) []api.Value {
	var l []api.Value
	for _, n := range all {
		l = append(l, number(n))
	}
	return l
}

// show is what a message shows of a value.
func show(v any) string {
	s := fmt.Sprintf("%+q", fmt.Sprint(v))
	return s[:min(len(s), 400)]
}

// equal tells whether two values are alike in all that they have, the order of
// their members too.
func equal(a, b api.Value) bool {
	return a.Kind == b.Kind && a.N == b.N && a.S == b.S && slices.EqualFunc(a.L, b.L, equal) &&
		slices.EqualFunc(a.M, b.M, func(x, y api.Member) bool { return x.Name == y.Name && equal(x.Val, y.Val) })
}

// names are the names of an address book's members, rising.
func names() []string { return []string{"description", "isSubscribed", "name", "sortOrder"} }

// standIns are what stands for an address book's members.
func standIns() api.Value {
	return members(named("description", null), named("isSubscribed", truth(1)), named("name", text("a")), named("sortOrder", number(0)))
}

// least is a right address book that has no more than it must.
func least() api.Value { return members(named("name", text("a"))) }

// with is a map in which a name stands once, behind the others, with a value.
func with(v api.Value, name string, x api.Value) api.Value {
	return more(tree.Without(v, name), named(name, x))
}

// goodValues are values that the member of a name may have.
func goodValues(name string) []api.Value {
	switch name {
	case "description":
		return append(texts("", "a", " ", "null", "\x00", "\xff", "\u00e9", long(255), long(256), long(1023), long(1024), strings.Repeat("\u00e9", 512)), null)
	case "isSubscribed":
		return []api.Value{truth(0), truth(1)}
	case "name":
		return texts("a", "ab", " ", "name", "\x00", "\xff", "\u00e9", long(254), long(255), strings.Repeat("\u00e9", 127))
	}
	return numbers(0, 1, 2, 255, 256, 1<<16, 2147483646, 2147483647)
}

// badValues are values of the right kind that the member of a name may not
// have.
func badValues(name string) []api.Value {
	switch name {
	case "description":
		return texts(long(1025), long(1026), long(2048), long(65536), strings.Repeat("\u00e9", 513), strings.Repeat("\u00e9", 1024))
	case "isSubscribed":
		return nil
	case "name":
		return texts("", long(256), long(257), long(512), long(1024), long(1025), strings.Repeat("\u00e9", 128), strings.Repeat("\u00e9", 255))
	}
	return numbers(-1, -2, -2147483647, -2147483648, 2147483648, 2147483649, 1<<32-1, 1<<32, 1<<32+1, api.MaxSafe, -api.MaxSafe, math.MaxInt64, math.MinInt64)
}

// kinds are values of each kind, and of none.
func kinds() []api.Value {
	return []api.Value{
		null, truth(0), truth(1), number(0), number(1), number(-1), number(api.MaxSafe), text(""), text("a"), text("true"), text("1"),
		list(), list(null), list(truth(1)), list(text("a")), list(members()), list(least()), members(), members(named("a", truth(1))), least(),
		{}, {Kind: -1}, {Kind: 7}, {Kind: 100}, {Kind: 256 + api.Text}, {Kind: math.MaxInt}, {Kind: math.MinInt}, {N: 1}, {S: "a"}, {Kind: 7, N: 1, S: "a"}, {N: 1, S: "a"},
		{Kind: api.Null, N: 1, S: "a"}, {Kind: api.Int, N: 1, S: "a"}, {Kind: api.Bool, N: 1, S: "a"}, {Kind: api.List, N: 1, S: "a"}, {Kind: api.Map, N: 1, S: "a"},
	}
}

// isKind tells whether the member of a name may have values of a kind.
func isKind(name string, kind int) bool {
	switch name {
	case "description":
		return kind == api.Text || kind == api.Null
	case "isSubscribed":
		return kind == api.Bool
	case "name":
		return kind == api.Text
	}
	return kind == api.Int
}

// otherKinds are values of kinds that the member of a name may not have.
func otherKinds(name string) []api.Value {
	all := kinds()
	for _, x := range goodValues(name) {
		all = append(all, list(x), members(named(name, x)), members(named("", x)))
		for _, kind := range []int{0, -1, 1, 2, 3, 4, 5, 6, 7, 256 + x.Kind} {
			all = append(all, api.Value{Kind: kind, N: x.N, S: x.S})
		}
	}
	return slices.DeleteFunc(all, func(x api.Value) bool { return isKind(name, x.Kind) })
}

// wrongValues are values that the member of a name may not have.
func wrongValues(name string) []api.Value {
	return slices.Concat(badValues(name), otherKinds(name))
}

// otherNames are names that no member of an address book has.
func otherNames() []string {
	all := []string{"", " ", "a", "id", "@type", "isDefault", "myRights", "shareWith", "a.b:c", "\x00", "\xff", "\u00e9", "names", "sort", "order", "0", "#name", "/name", long(1024)}
	for _, n := range names() {
		all = append(all, n+" ", " "+n, n+"s", n+"\x00", n+n, n[1:], n[:len(n)-1], n[:1], strings.ToUpper(n), strings.ToUpper(n[:1])+n[1:], n+":a", "a:"+n, n+"/"+n)
	}
	return append(all, "issubscribed", "sortorder", "is_subscribed", "is-subscribed", "sort_order", "isSubscribe\u0501", "n\u0430me")
}

// checkNames holds Check against the names that are wanted, and Whole against
// whether there are some.
func checkNames(t *testing.T, v api.Value, want ...string) {
	t.Helper()
	if got := book.Check(v); !slices.Equal(got, want) {
		t.Fatalf("Check(%s) = %.400q; want %.400q", show(v), got, want)
	}
	got := book.Whole(v)
	if is := equal(got, api.Value{}); is != (len(want) > 0) {
		t.Fatalf("Whole(%s) = %s; Check: %.400q", show(v), show(got), want)
	}
}

// checkWhole holds the whole form of a right address book against what is
// wanted, and that against its own whole form.
func checkWhole(t *testing.T, v, want api.Value) {
	t.Helper()
	checkNames(t, v)
	got := book.Whole(v)
	if !equal(got, want) {
		t.Fatalf("Whole(%s) = %s; want %s", show(v), show(got), show(want))
	}
	checkNames(t, got)
	if again := book.Whole(got); !equal(again, got) {
		t.Fatalf("Whole(%s) = %s", show(got), show(again))
	}
}

// checkText holds the texts of an address book's whole form against what is
// wanted.
func checkText(t *testing.T, v, want string) {
	t.Helper()
	got, e := emit.Text(book.Whole(value(v)))
	if e != api.OK || got != want {
		t.Errorf("Whole(%s) = %s, %d; want %s", v, got, e, want)
	}
}

// P15.1: of each member, values that it may have.
func TestGoodValues(t *testing.T) {
	for _, n := range names() {
		for _, x := range goodValues(n) {
			v := with(least(), n, x)
			checkWhole(t, v, book.Whole(v))
			if got, is := tree.Get(book.Whole(v), n); !is || !equal(got, x) {
				t.Fatalf("%s is %s in Whole(%s)", n, show(got), show(v))
			}
			for _, y := range goodValues("name") {
				if n != "name" {
					checkNames(t, with(v, "name", y))
				}
			}
		}
	}
}

// P15.1: of each member, values of the right kind that it may not have, and of
// other kinds.
func TestWrongValues(t *testing.T) {
	for _, n := range names() {
		for _, x := range wrongValues(n) {
			checkNames(t, with(least(), n, x), n)
			checkNames(t, with(standIns(), n, x), n)
			checkNames(t, more(members(named(n, x)), with(standIns(), n, x).M...), n)
		}
		if got := len(otherKinds(n)); got < 30 {
			t.Errorf("of %s there are %d values of other kinds", n, got)
		}
	}
	for _, n := range []string{"isSubscribed", "sortOrder", "name"} {
		checkNames(t, with(least(), n, null), n)
	}
}

// P15.1: a name must be there, and none of the others.
func TestMust(t *testing.T) {
	checkNames(t, members(), "name")
	checkNames(t, api.Value{Kind: api.Map, M: []api.Member{}}, "name")
	for i := range 16 {
		v := standIns()
		for j, n := range names() {
			if i>>j&1 == 1 {
				v = tree.Without(v, n)
			}
		}
		if i>>2&1 == 1 {
			checkNames(t, v, "name")
			checkNames(t, more(v, named("Name", text("a")), named("name ", text("a"))), "Name", "name", "name ")
			checkNames(t, more(v, named("x", members(named("name", text("a"))))), "name", "x")
		} else {
			checkWhole(t, v, standIns())
		}
	}
	for _, n := range names() {
		if n != "name" {
			for _, x := range goodValues(n) {
				checkNames(t, members(named(n, x)), "name")
			}
		}
	}
}

// P15.1: members of other names may not be, whatever their values are.
func TestOtherNames(t *testing.T) {
	for _, n := range otherNames() {
		for _, x := range slices.Concat(kinds(), goodValues("name"), goodValues("sortOrder")) {
			checkNames(t, more(least(), named(n, x)), n)
			checkNames(t, more(members(named(n, x)), standIns().M...), n)
			checkNames(t, more(least(), named(n, x), named(n, null)), n)
			want := []string{n, "name"}
			slices.Sort(want)
			checkNames(t, members(named(n, x)), want...)
		}
	}
	all := more(least(), named("id", text("b1")), named("isDefault", truth(0)), named("myRights", members()))
	checkNames(t, all, "id", "isDefault", "myRights")
}

// P15.1: of what is no map there is name alone.
func TestNoMap(t *testing.T) {
	for _, v := range kinds() {
		if v.Kind == api.Map {
			continue
		}
		checkNames(t, v, "name")
		checkNames(t, list(v, least()), "name")
		// What such a value has for members isn't looked at.
		for _, m := range []api.Value{least(), standIns(), members(named("x", null))} {
			stray := v
			stray.M = m.M
			checkNames(t, stray, "name")
		}
	}
	for _, kind := range []int{0, 1, 2, 3, 4, 5, 7, -6, 256 + api.Map, math.MinInt, math.MaxInt} {
		checkNames(t, api.Value{Kind: kind, M: least().M}, "name")
	}
}

// P15.1: the kind alone makes a map.
func TestMap(t *testing.T) {
	v := least()
	v.N, v.S = 7, "x"
	checkWhole(t, v, standIns())
	v.M = nil
	checkNames(t, v, "name")
}

// P15.1: a name that stands twice or more: each one is looked at, and told
// once; the first one is what is taken.
func TestTwice(t *testing.T) {
	for _, n := range names() {
		rest := tree.Without(least(), n)
		for i, x := range goodValues(n) {
			for _, y := range goodValues(n) {
				v := more(rest, named(n, x), named(n, y))
				checkWhole(t, v, wholeWith(n, x))
				checkWhole(t, more(members(named(n, x)), append(rest.M, named(n, y), named(n, x))...), wholeWith(n, x))
			}
			for j, y := range wrongValues(n) {
				if (i+j)%7 > 0 {
					continue
				}
				checkNames(t, more(rest, named(n, x), named(n, y)), n)
				checkNames(t, more(rest, named(n, y), named(n, x)), n)
				checkNames(t, more(rest, named(n, x), named(n, x), named(n, y)), n)
				checkNames(t, more(rest, named(n, y), named(n, x), named(n, y)), n)
				checkNames(t, more(rest, named(n, y), named(n, y), named(n, y)), n)
			}
		}
	}
}

// wholeWith is a whole form with the member of a name set, in its place.
func wholeWith(name string, x api.Value) api.Value {
	v := standIns()
	i := slices.Index(names(), name)
	v.M[i].Val = x
	return v
}

// P15.1: several members that may not be: their names are told rising, each
// once.
func TestCheckOrder(t *testing.T) {
	checkNames(t, value(`{"sortOrder":-1,"name":"","isSubscribed":0,"description":1}`), "description", "isSubscribed", "name", "sortOrder")
	checkNames(t, value(`{"z":1,"a":1,"name":"x","M":1,"":1,"sortOrder":null}`), "", "M", "a", "sortOrder", "z")
	checkNames(t, value(`{"names":1,"nam":1,"namf":1,"nbme":1}`), "nam", "name", "names", "namf", "nbme")
	checkNames(t, value(`{"description":"","x":1,"sortOrder":0}`), "name", "x")
	r := rand.New(rand.NewSource(151))
	for range 3000 {
		v, want, hasName := members(), []string{}, false
		for range r.Intn(12) {
			m, wrong := anyMember(r)
			v.M, hasName = append(v.M, m), hasName || m.Name == "name"
			if wrong {
				want = append(want, m.Name)
			}
		}
		if !hasName {
			want = append(want, "name")
		}
		slices.Sort(want)
		checkNames(t, v, slices.Compact(want)...)
	}
}

// anyMember is a member that is made by chance, and whether it may not be.
func anyMember(r *rand.Rand) (api.Member, bool) {
	n := r.Intn(len(names()) + 2)
	if n >= len(names()) {
		others := otherNames()
		return named(others[r.Intn(len(others))], null), true
	}
	wrong := r.Intn(2) == 0
	all := goodValues(names()[n])
	if wrong {
		all = wrongValues(names()[n])
	}
	return named(names()[n], all[r.Intn(len(all))]), wrong
}

// permutations calls f with the members of a map in each order.
func permutations(m []api.Member, f func([]api.Member)) {
	if len(m) == 0 {
		f(nil)
	}
	for i, x := range m {
		permutations(slices.Concat(m[:i], m[i+1:]), func(rest []api.Member) { f(append([]api.Member{x}, rest...)) })
	}
}

// P15.1: the whole form of right address books: each member left out, alone and
// together, the members in every order, the values as they are.
func TestWhole(t *testing.T) {
	full := members(named("description", text("d")), named("isSubscribed", truth(0)), named("name", text("n")), named("sortOrder", number(7)))
	n := 0
	for i := range 16 {
		part, want := members(), standIns()
		for j, m := range full.M {
			if i>>j&1 == 1 {
				part.M = append(part.M, m)
				want.M[j] = m
			}
		}
		if i>>2&1 == 0 {
			continue
		}
		permutations(part.M, func(m []api.Member) {
			checkWhole(t, members(m...), want)
			n++
		})
	}
	if n != 1+3*2+3*6+24 {
		t.Errorf("%d orders were seen", n)
	}
	for _, d := range goodValues("description") {
		for _, s := range goodValues("isSubscribed") {
			for _, n := range goodValues("name") {
				for _, o := range goodValues("sortOrder") {
					v := members(named("sortOrder", o), named("name", n), named("isSubscribed", s), named("description", d))
					checkWhole(t, v, members(named("description", d), named("isSubscribed", s), named("name", n), named("sortOrder", o)))
				}
			}
		}
	}
	checkText(t, `{"name":"\u00e9\"","sortOrder":2147483647}`, `{"description":null,"isSubscribed":true,"name":"é\"","sortOrder":2147483647}`)
	checkText(t, `{"isSubscribed":false,"name":"x","description":""}`, `{"description":"","isSubscribed":false,"name":"x","sortOrder":0}`)
	checkText(t, `{"sortOrder":1,"description":null,"name":"null"}`, `{"description":null,"isSubscribed":true,"name":"null","sortOrder":1}`)
}

// P15.1: what isn't right has no whole form.
func TestWholeOfWrong(t *testing.T) {
	wrong := slices.DeleteFunc(kinds(), func(v api.Value) bool { return equal(v, least()) })
	for _, n := range otherNames() {
		wrong = append(wrong, more(standIns(), named(n, null)))
	}
	for _, n := range names() {
		for _, x := range wrongValues(n) {
			wrong = append(wrong, with(standIns(), n, x), more(standIns(), named(n, x)))
		}
	}
	wrong = append(wrong, tree.Without(standIns(), "name"))
	for _, v := range wrong {
		if got := book.Whole(v); !equal(got, api.Value{}) {
			t.Errorf("Whole(%s) = %s", show(v), show(got))
		}
	}
}

// P15.2: the whole form is right, and its own whole form; address books that
// are unlike in the order of members, and in what stands for members, have one.
func TestWholeOfWhole(t *testing.T) {
	r := rand.New(rand.NewSource(152))
	for range 5000 {
		plain, want := members(), standIns()
		for i, n := range names() {
			all := goodValues(n)
			x := all[r.Intn(len(all))]
			if n == "name" || r.Intn(3) > 0 {
				plain.M, want.M[i].Val = append(plain.M, named(n, x)), x
				if r.Intn(3) == 0 {
					plain.M = append(plain.M, named(n, all[r.Intn(len(all))]))
				}
			}
		}
		checkWhole(t, plain, want)
		checkWhole(t, more(plain, plain.M...), want)
		checkWhole(t, more(plain, standIns().M...), want)
		r.Shuffle(len(want.M), func(i, j int) { want.M[i], want.M[j] = want.M[j], want.M[i] })
		checkWhole(t, want, book.Whole(plain))
	}
}

// roomy is a value whose lists all have spare room, with something in it.
func roomy(v api.Value) api.Value {
	if len(v.L) > 0 || v.Kind == api.List {
		l := make([]api.Value, 0, len(v.L)+2)
		for _, x := range v.L {
			l = append(l, roomy(x))
		}
		v.L = l
		_ = append(l, text("spare"), number(9))
	}
	if len(v.M) > 0 || v.Kind == api.Map {
		m := make([]api.Member, 0, len(v.M)+5)
		for _, x := range v.M {
			m = append(m, named(x.Name, roomy(x.Val)))
		}
		v.M = m
		_ = append(m, named("spare", number(9)), named("name", text("spare")), named("sortOrder", number(9)), named("isSubscribed", truth(0)), named("description", text("spare")))
	}
	return v
}

// places are where the values and members of a value's lists stand, their spare
// room too.
func places(v api.Value, f func(any)) {
	for i := range v.L[:cap(v.L)] {
		f(&v.L[:cap(v.L)][i])
	}
	for i := range v.M[:cap(v.M)] {
		f(&v.M[:cap(v.M)][i])
	}
	for _, x := range v.L {
		places(x, f)
	}
	for _, m := range v.M {
		places(m.Val, f)
	}
}

// scribble writes over all of a value's lists, their spare room too.
func scribble(v api.Value) {
	for _, x := range v.L {
		scribble(x)
	}
	for _, m := range v.M {
		scribble(m.Val)
	}
	places(api.Value{L: v.L, M: v.M}, func(p any) {
		switch p := p.(type) {
		case *api.Value:
			*p = text("over")
		case *api.Member:
			*p = named("over", text("over"))
		}
	})
}

// all is a value with its lists' spare room.
func all(v api.Value) api.Value {
	w := api.Value{Kind: v.Kind, N: v.N, S: v.S}
	for _, x := range v.L[:cap(v.L)] {
		w.L = append(w.L, all(x))
	}
	for _, m := range v.M[:cap(v.M)] {
		w.M = append(w.M, named(m.Name, all(m.Val)))
	}
	return w
}

// P15.3: what is handed in stays, its spare room too; what is answered is new
// memory, and may be written over.
func TestMemory(t *testing.T) {
	some := slices.Concat(kinds(), []api.Value{standIns(), tree.Without(standIns(), "name"), more(standIns(), standIns().M...), more(standIns(), named("x", list(least())), named("a", null))})
	for _, n := range names() {
		for _, x := range slices.Concat(goodValues(n), wrongValues(n)) {
			some = append(some, with(least(), n, x), more(members(named(n, x)), standIns().M...), more(standIns(), named(n, x), named("z", null), named("b", x)))
		}
	}
	for _, v := range some {
		v = roomy(v)
		before := all(v)
		names, whole := book.Check(v), book.Whole(v)
		if !equal(all(v), before) {
			t.Fatalf("%s was changed", show(v))
		}
		taken := map[any]int{}
		places(v, func(p any) { taken[p]++ })
		places(whole, func(p any) {
			if taken[p]++; taken[p] > 1 {
				t.Fatalf("Whole(%s) shares a list", show(v))
			}
		})
		wantNames, want := slices.Clone(names), tree.Copy(whole)
		scribble(whole)
		for i := range names[:cap(names)] {
			names[:cap(names)][i] = "over"
		}
		if !equal(all(v), before) {
			t.Fatalf("%s was changed by what was answered", show(v))
		}
		checkNames(t, v, wantNames...)
		again := book.Whole(v)
		if !equal(again, want) {
			t.Fatalf("Whole(%s) = %s; want %s, as ahead", show(v), show(again), show(want))
		}
		scribble(v)
		if !equal(again, want) {
			t.Fatalf("what Whole told was changed by what was handed in: %s; want %s", show(again), show(want))
		}
	}
	checkText(t, `{"name":"a"}`, `{"description":null,"isSubscribed":true,"name":"a","sortOrder":0}`)
}

// P15.3: two answers share no list.
func TestTwoAnswers(t *testing.T) {
	first, second := book.Whole(least()), book.Whole(least())
	scribble(first)
	if !equal(second, standIns()) {
		t.Errorf("the second answer is %s", show(second))
	}
	names := book.Check(null)
	names[0] = "over"
	checkNames(t, null, "name")
}

// P1: all calls end, and none panics: values that lie deep.
func TestDeep(t *testing.T) {
	deepList, deepMap := null, null
	for range 1<<16 - 2 {
		deepList, deepMap = list(deepList), members(named("name", deepMap))
	}
	for _, deep := range []api.Value{deepList, deepMap} {
		checkNames(t, deep, "name")
		for _, n := range names() {
			checkNames(t, with(least(), n, deep), n)
		}
		checkNames(t, more(least(), named("x", deep)), "x")
	}
}

// P1: maps of many members.
func TestMany(t *testing.T) {
	const many = 1 << 19
	right, wrong, others := members(), members(), members()
	for i := range many {
		right.M = append(right.M, named(names()[i%4], standIns().M[i%4].Val))
		wrong.M = append(wrong.M, named(names()[i%4], list()))
		others.M = append(others.M, named(strconv.Itoa(i%1000), null))
	}
	checkWhole(t, right, standIns())
	checkNames(t, wrong, names()...)
	checkNames(t, more(right, wrong.M...), names()...)
	if got := book.Check(others); len(got) != 1001 || !slices.IsSorted(got) {
		t.Fatalf("%d names", len(got))
	}
	checkNames(t, with(least(), "name", list(others, right)), "name")
}

// P1: values that have what their kind doesn't name.
func TestStray(t *testing.T) {
	for _, v := range kinds() {
		stray := api.Value{Kind: v.Kind, N: v.N, S: v.S, L: []api.Value{least(), v}, M: slices.Concat(v.M, least().M)}
		for _, w := range []api.Value{v, stray, more(least(), named("description", stray)), with(least(), "name", stray), list(stray), more(least(), stray.M...)} {
			book.Check(w)
			book.Whole(w)
		}
	}
}

// The section 'Examples'.
func TestExamples(t *testing.T) {
	checkText(t, `{"name":"a"}`, `{"description":null,"isSubscribed":true,"name":"a","sortOrder":0}`)
	checkNames(t, value(`{"name":"a"}`))
	checkNames(t, value(`{"sortOrder":-1,"x":1}`), "name", "sortOrder", "x")
}
