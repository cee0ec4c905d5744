package tree_test

import (
	"fmt"
	"math"
	"math/rand"
	"reflect"
	"slices"
	"sort"
	"strconv"
	"strings"
	"testing"

	"cardbox/api"
	"cardbox/tree"
)

// null, truth, number, text, list and members make values.
func null() api.Value { return api.Value{Kind: api.Null} }

func truth(n int64) api.Value { return api.Value{Kind: api.Bool, N: n} }

func number(n int64) api.Value { return api.Value{Kind: api.Int, N: n} }

func text(s string) api.Value { return api.Value{Kind: api.Text, S: s} }

func list(l ...api.Value) api.Value { return api.Value{Kind: api.List, L: l} }

func members(m ...api.Member) api.Value { return api.Value{Kind: api.Map, M: m} }

// named makes a member.
func named(name string, v api.Value) api.Member { return api.Member{Name: name, Val: v} }

// row makes a map of numbers out of a text like "b=1 a=2 =3".
func row(s string) api.Value {
	v := members()
	for _, pair := range strings.Fields(s) {
		name, digits, _ := strings.Cut(pair, "=")
		n, err := strconv.ParseInt(digits, 10, 64)
		if err != nil {
			panic(err)
		}
		v.M = append(v.M, named(name, number(n)))
	}
	return v
}

// equal tells whether two values have the same in all their fields, members in
// their order; lists of nothing are one.
func equal(a, b api.Value) bool {
	return a.Kind == b.Kind && a.N == b.N && a.S == b.S && slices.EqualFunc(a.L, b.L, equal) &&
		slices.EqualFunc(a.M, b.M, func(x, y api.Member) bool { return x.Name == y.Name && equal(x.Val, y.Val) })
}

// show is what a message shows of a value.
func show(v api.Value) string {
	s := fmt.Sprint(v)
	return s[:min(len(s), 300)]
}

// laid is a value, and how deep it lies.
type laid struct {
	v    api.Value
	deep int
}

// inOrder are all values, a list and a map ahead of what is in them.
func inOrder(v api.Value) []laid {
	var all []laid
	open := []laid{{v, 1}}
	for len(open) > 0 {
		x := open[len(open)-1]
		open = open[:len(open)-1]
		all = append(all, x)
		for _, y := range slices.Backward(x.v.L) {
			open = append(open, laid{y, x.deep + 1})
		}
		for _, m := range slices.Backward(x.v.M) {
			open = append(open, laid{m.Val, x.deep + 1})
		}
	}
	return all
}

// areSame tells whether two values ought to be the same: the words of the
// chapter, one by one.
func areSame(a, b api.Value) bool {
	if a.Kind != b.Kind || a.N != b.N || a.S != b.S || len(a.L) != len(b.L) || len(a.M) != len(b.M) {
		return false
	}
	for i := range a.L {
		if !areSame(a.L[i], b.L[i]) {
			return false
		}
	}
	for _, m := range a.M {
		i := slices.IndexFunc(b.M, func(x api.Member) bool { return x.Name == m.Name })
		if i < 0 || !areSame(m.Val, b.M[i].Val) {
			return false
		}
	}
	return true
}

// hasTwice tells whether a map in a value has a name twice.
func hasTwice(v api.Value) bool {
	for _, x := range inOrder(v) {
		names := map[string]bool{}
		for _, m := range x.v.M {
			if names[m.Name] {
				return true
			}
			names[m.Name] = true
		}
	}
	return false
}

// sorted is what Sort ought to tell: each member goes behind those with a
// lesser name, or with the same one ahead of it.
func sorted(v api.Value) api.Value {
	w := api.Value{Kind: v.Kind, N: v.N, S: v.S}
	for _, x := range v.L {
		w.L = append(w.L, sorted(x))
	}
	order := make([]int, len(v.M))
	for i := range order {
		order[i] = i
	}
	sort.Slice(order, func(i, j int) bool {
		x, y := order[i], order[j]
		return v.M[x].Name < v.M[y].Name || v.M[x].Name == v.M[y].Name && x < y
	})
	for _, i := range order {
		w.M = append(w.M, named(v.M[i].Name, sorted(v.M[i].Val)))
	}
	return w
}

// plain are values with no others in them.
var plain = []api.Value{
	null(), truth(0), truth(1), number(0), number(1), number(-1), number(2), number(256), number(1 << 32), number(1<<32 + 1),
	number(api.MaxSafe), number(-api.MaxSafe), number(math.MaxInt64), number(math.MinInt64),
	text(""), text("a"), text("b"), text("A"), text("aa"), text("a "), text("a\x00"), text("\u00e9"), text("\xff"), text("1"), text("null"),
	list(), members(),
}

// odd are values of a wrong kind, or with an N or S that their kind doesn't
// name.
var odd = []api.Value{
	{}, {Kind: -1}, {Kind: 7}, {Kind: 100}, {Kind: 1<<32 + 6}, {Kind: math.MaxInt}, {Kind: math.MinInt},
	{N: 1}, {S: "a"}, {Kind: 7, N: 1}, {Kind: 7, S: "a"}, {Kind: api.Null, N: 1}, {Kind: api.Null, S: "a"}, {Kind: api.Bool, N: 2}, {Kind: api.Bool, S: "ab"},
	{Kind: api.Int, S: "a"}, {Kind: api.Text, N: 1}, {Kind: api.List, N: 1}, {Kind: api.List, S: "a"}, {Kind: api.Map, N: 1}, {Kind: api.Map, S: "abc"},
}

// noMaps are values that are no maps, some with members all the same.
func noMaps() []api.Value {
	var all []api.Value
	for _, v := range slices.Concat(plain, odd, []api.Value{list(row("a=1")), list(members(named("a", null())), null())}) {
		if v.Kind == api.Map {
			continue
		}
		stray := v
		stray.M = row("a=1 =2 a=3").M
		all = append(all, v, stray)
	}
	return all
}

// P7.1: Get tells the first member of a name, of a map alone.
func TestGet(t *testing.T) {
	for _, x := range []struct {
		row, name string
		want      int64 // 0: there is none
	}{
		{"a=1 b=2 c=3", "a", 1}, {"a=1 b=2 c=3", "b", 2}, {"a=1 b=2 c=3", "c", 3}, {"a=1", "a", 1},
		{"a=1 b=2 c=3", "d", 0}, {"a=1 b=2 c=3", "", 0}, {"a=1 b=2 c=3", "A", 0}, {"a=1 b=2 c=3", "aa", 0}, {"a=1 b=2 c=3", "a\x00", 0}, {"aa=1 ab=2", "a", 0},
		{"", "a", 0}, {"", "", 0}, {"a=1 =2 c=3", "", 2}, {"=1", "", 1},
		{"a=1 b=2 a=1", "a", 1}, {"a=1 b=2 a=3", "a", 1}, {"b=2 a=3 a=1", "a", 3}, {"=3 a=2 =1", "", 3}, {"a=3 a=2 a=1", "a", 3},
		{"\u00e9=1 e\u0301=2 \xff=3", "e\u0301", 2}, {"\u00e9=1 e\u0301=2 \xff=3", "\xff", 3}, {"\xff=1", "\ufffd", 0},
	} {
		v, ok := tree.Get(row(x.row), x.name)
		if want := x.want != 0; ok != want || want && !equal(v, number(x.want)) || !want && !equal(v, api.Value{}) {
			t.Errorf("Get(%q, %q) = %s, %t; want %d", x.row, x.name, show(v), ok, x.want)
		}
	}
	for _, x := range slices.Concat(plain, odd) {
		v := members(named("b", number(1)), named("a", x), named("a", number(2)))
		if got, ok := tree.Get(v, "a"); !ok || !equal(got, x) {
			t.Errorf("Get(%s, a) = %s, %t", show(v), show(got), ok)
		}
	}
	for _, v := range noMaps() {
		for _, name := range []string{"a", "", "b"} {
			if got, ok := tree.Get(v, name); ok || !equal(got, api.Value{}) {
				t.Errorf("Get(%s, %q) = %s, %t", show(v), name, show(got), ok)
			}
		}
	}
}

// P7.1: With sets the first member of a name, or puts one at the end.
func TestWith(t *testing.T) {
	for _, x := range []struct{ row, name, want string }{
		{"a=1 b=2 c=3", "a", "a=7 b=2 c=3"}, {"a=1 b=2 c=3", "b", "a=1 b=7 c=3"}, {"a=1 b=2 c=3", "c", "a=1 b=2 c=7"}, {"a=1", "a", "a=7"},
		{"c=1 b=2 a=3", "d", "c=1 b=2 a=3 d=7"}, {"c=1 b=2", "a", "c=1 b=2 a=7"}, {"c=1 b=2", "", "c=1 b=2 =7"}, {"a=1", "A", "a=1 A=7"}, {"aa=1 ab=2", "a", "aa=1 ab=2 a=7"},
		{"", "a", "a=7"}, {"", "", "=7"}, {"a=1 =2 c=3", "", "a=1 =7 c=3"}, {"a=7", "a", "a=7"},
		{"a=1 b=2 a=1", "a", "a=7 b=2 a=1"}, {"b=2 a=3 c=4 a=1", "a", "b=2 a=7 c=4 a=1"}, {"a=1 a=2 a=3", "a", "a=7 a=2 a=3"}, {"a=1 b=2 a=3", "b", "a=1 b=7 a=3"},
		{"a=1 b=2 a=3", "c", "a=1 b=2 a=3 c=7"}, {"=1 =2", "", "=7 =2"}, {"\xff=1", "\ufffd", "\xff=1 \ufffd=7"},
	} {
		if v := tree.With(row(x.row), x.name, number(7)); !equal(v, row(x.want)) {
			t.Errorf("With(%q, %q) = %s; want %q", x.row, x.name, show(v), x.want)
		}
	}
	for _, x := range slices.Concat(plain, odd, noMaps()) {
		v := members(named("b", x), named("a", text("x")))
		if w := tree.With(v, "a", x); !equal(w, members(named("b", x), named("a", x))) {
			t.Errorf("With(%s, a, %s) = %s", show(v), show(x), show(w))
		}
		if w := tree.With(v, "c", x); !equal(w, members(named("b", x), named("a", text("x")), named("c", x))) {
			t.Errorf("With(%s, c, %s) = %s", show(v), show(x), show(w))
		}
	}
	for _, v := range noMaps() {
		for _, name := range []string{"a", "", "b"} {
			if w := tree.With(v, name, v); !equal(w, members(named(name, v))) {
				t.Errorf("With(%s, %q) = %s", show(v), name, show(w))
			}
		}
	}
}

// P7.1: Without leaves all members of a name away, and no other.
func TestWithout(t *testing.T) {
	for _, x := range []struct{ row, name, want string }{
		{"a=1 b=2 c=3", "a", "b=2 c=3"}, {"a=1 b=2 c=3", "b", "a=1 c=3"}, {"a=1 b=2 c=3", "c", "a=1 b=2"}, {"a=1", "a", ""},
		{"c=1 b=2 a=3", "d", "c=1 b=2 a=3"}, {"c=1 b=2", "", "c=1 b=2"}, {"a=1 aa=2", "A", "a=1 aa=2"}, {"aa=1 ab=2", "a", "aa=1 ab=2"},
		{"", "a", ""}, {"", "", ""}, {"c=1 =2 a=3", "", "c=1 a=3"}, {"=1", "", ""},
		{"a=1 b=2 a=1", "a", "b=2"}, {"d=2 a=3 c=4 a=1 b=0", "a", "d=2 c=4 b=0"}, {"a=1 a=2 a=3", "a", ""}, {"a=1 a=2 b=3", "a", "b=3"}, {"b=3 a=1 a=2", "a", "b=3"},
		{"b=1 a=2 b=3", "a", "b=1 b=3"}, {"b=1 b=3", "a", "b=1 b=3"}, {"=1 a=0 =2", "", "a=0"}, {"\xff=1", "\ufffd", "\xff=1"},
	} {
		if v := tree.Without(row(x.row), x.name); !equal(v, row(x.want)) {
			t.Errorf("Without(%q, %q) = %s; want %q", x.row, x.name, show(v), x.want)
		}
	}
	for _, x := range slices.Concat(plain, odd, noMaps()) {
		v := members(named("b", x), named("a", x), named("c", members(named("a", x))))
		if w := tree.Without(v, "a"); !equal(w, members(named("b", x), named("c", members(named("a", x))))) {
			t.Errorf("Without(%s, a) = %s", show(v), show(w))
		}
	}
	for _, v := range noMaps() {
		for _, name := range []string{"a", "", "b"} {
			if w := tree.Without(v, name); !equal(w, members()) {
				t.Errorf("Without(%s, %q) = %s", show(v), name, show(w))
			}
		}
	}
}

// unlike are values no two of which are the same; each is the same as itself.
func unlike() []api.Value {
	all := slices.Concat(plain, odd)
	all = append(all, list(null()), list(number(1)), list(number(2)), list(number(1), number(2)), list(number(2), number(1)), list(number(1), number(1)),
		list(number(1), number(2), number(3)), list(number(1), number(2), number(1)), list(list()), list(list(), list()), list(list(list())), list(members()),
		list(list(number(1)), number(2)), list(list(number(1), number(2))), list(text("a")), list(text("")), list(truth(1)), list(truth(0)), list(api.Value{}), list(api.Value{Kind: 7}))
	for _, s := range []string{"a=1", "a=2", "b=1", "A=1", "=1", "aa=1", "a=1 b=1", "a=1 b=2", "a=2 b=1", "b=1 c=2", "a=1 c=2", "a=1 b=2 c=3", "a=1 b=3 c=2", "a=1 b=2 d=3", "a=1 b=2 c=3 d=4", "a=1 b=2 =3"} {
		all = append(all, row(s))
	}
	for _, v := range []api.Value{null(), truth(1), text("1"), list(), members(), list(number(1)), row("a=1"), row("b=1"), row("a=1 b=2")} {
		all = append(all, members(named("a", v)), members(named("a", v), named("b", v)))
	}
	for _, v := range all[len(plain)+len(odd):] {
		all = append(all, list(v, null()), members(named("x", v)))
	}
	return all
}

// checkSame holds Same against what is wanted, also of values that have these
// in them.
func checkSame(t *testing.T, a, b api.Value, want bool) {
	t.Helper()
	for range 3 {
		if tree.Same(a, b) != want {
			t.Fatalf("Same(%s, %s) is %t", show(a), show(b), !want)
		}
		a = members(named("x", null()), named("y", list(text("x"), a)))
		b = members(named("y", list(text("x"), b)), named("x", null()))
	}
}

// P7.2: values that differ in one thing aren't the same, and each is as itself.
func TestSame(t *testing.T) {
	all := unlike()
	for i, a := range all {
		for j, b := range all {
			if tree.Same(a, b) != (i == j) {
				t.Fatalf("Same(%s, %s) is %t", show(a), show(b), i != j)
			}
		}
		checkSame(t, a, roomy(a), true)
		checkSame(t, a, all[(i+1)%len(all)], false)
	}
	// What a list or a map of nothing lies in doesn't matter.
	checkSame(t, api.Value{Kind: api.List, L: []api.Value{}}, api.Value{Kind: api.List}, true)
	checkSame(t, api.Value{Kind: api.Map, M: []api.Member{}, L: []api.Value{}}, api.Value{Kind: api.Map}, true)
}

// P7.2: maps are the same in whatever order their members stand, lists aren't.
func TestSameInAnyOrder(t *testing.T) {
	one := members(named("a", number(1)), named("b", list(row("x=1 y=2"), null())), named("c", row("p=1 q=2 r=3")), named("", text("z")))
	other := members(named("a", number(1)), named("b", list(row("y=2 x=1"), null())), named("c", row("r=3 p=1 q=2")), named("", text("z")))
	apart := members(named("a", number(1)), named("b", list(row("y=2 x=1"), null())), named("c", row("r=3 p=1 q=1")), named("", text("z")))
	for i := range 4 {
		for j := range 4 {
			for k := range 4 {
				for _, v := range []api.Value{other, apart} {
					w := members(slices.Clone(v.M)...)
					w.M[0], w.M[i] = w.M[i], w.M[0]
					w.M[1], w.M[j] = w.M[j], w.M[1]
					w.M[2], w.M[k] = w.M[k], w.M[2]
					checkSame(t, one, w, equal(v, other))
					checkSame(t, w, one, equal(v, other))
				}
			}
		}
	}
	checkSame(t, list(row("a=1"), row("b=2")), list(row("b=2"), row("a=1")), false)
	checkSame(t, members(named("a", list(number(1), number(2)))), members(named("a", list(number(2), number(1)))), false)
}

// P7.2: of maps in which a name stands twice, the second one's first member of
// a name is what each of the first one's is held against.
func TestSameTwice(t *testing.T) {
	for _, x := range []struct {
		a, b string
		want bool
	}{
		{"a=1 a=1", "a=1 a=1", true}, {"a=1 a=2", "a=1 a=2", false}, {"a=1 a=2", "a=2 a=1", false}, {"a=2 a=1", "a=1 a=2", false},
		{"a=1 a=1", "a=1 a=2", true}, {"a=1 a=2", "a=1 a=1", false}, {"a=1 a=1", "a=2 a=1", false}, {"a=2 a=1", "a=1 a=1", false},
		{"a=1 a=1", "a=1 b=1", true}, {"a=1 b=1", "a=1 a=1", false}, {"a=1 a=1", "b=1 a=1", true}, {"b=1 a=1", "a=1 a=1", false}, {"a=1 a=1", "b=1 c=1", false},
		{"a=1 a=1", "a=1", false}, {"a=1", "a=1 a=1", false}, {"a=1 a=1 a=1", "a=1 a=1", false},
		{"a=1 b=2 a=1", "b=2 a=1 a=1", true}, {"a=1 b=2 a=1", "b=2 b=2 a=1", true}, {"a=1 b=2 a=1", "b=2 b=3 a=1", true}, {"a=1 b=2 a=1", "b=3 b=2 a=1", false},
		{"a=1 b=2 a=3", "a=1 b=2 a=3", false}, {"a=1 b=2 b=2", "a=1 a=3 b=2", true}, {"=1 =1", "=1 =1", true}, {"=1 =2", "=1 =2", false},
	} {
		checkSame(t, row(x.a), row(x.b), x.want)
		if areSame(row(x.a), row(x.b)) != x.want {
			t.Fatalf("the test's own answer of %q and %q isn't %t", x.a, x.b, x.want)
		}
	}
	// The same value needn't have its members in the same order.
	twice := members(named("a", row("x=1 y=2")), named("a", row("y=2 x=1")))
	checkSame(t, twice, twice, true)
	twice.M[1].Val = row("y=1 x=2")
	checkSame(t, twice, twice, false)
}

// P7.2: Sort puts members in the order of the bytes of their names.
func TestSort(t *testing.T) {
	for _, x := range []struct{ row, want string }{
		{"", ""}, {"a=1", "a=1"}, {"b=1 a=2", "a=2 b=1"}, {"a=1 b=2", "a=1 b=2"}, {"c=1 b=2 a=3", "a=3 b=2 c=1"}, {"b=1 c=2 a=3", "a=3 b=1 c=2"},
		{"ab=1 a=2 abc=3 =4 b=5 aa=6", "=4 a=2 aa=6 ab=1 abc=3 b=5"}, {"a\x00=1 a=2", "a=2 a\x00=1"},
		{"b=1 B=2 a=3 A=4 _=5 1=6 10=7 9=8 -=9", "-=9 1=6 10=7 9=8 A=4 B=2 _=5 a=3 b=1"},
		{"\xff=1 \u00e9=2 z=3 \U0001f600=4 \uffee=5 \x80=6 \x7f=7", "z=3 \x7f=7 \x80=6 \u00e9=2 \uffee=5 \U0001f600=4 \xff=1"},
		{"a\xff=1 b=2 a=3 az=4", "a=3 az=4 a\xff=1 b=2"},
		{"a=2 a=1", "a=2 a=1"}, {"b=3 a=2 b=1 a=1 b=2", "a=2 a=1 b=3 b=1 b=2"}, {"=2 a=1 =1", "=2 =1 a=1"},
	} {
		v, want := row(x.row), row(x.want)
		for range 3 {
			if got := tree.Sort(v); !equal(got, want) {
				t.Fatalf("Sort(%s) = %s; want %s", show(v), show(got), show(want))
			}
			v = members(named("y", list(number(2), v, number(1))), named("x", v))
			want = members(named("x", want), named("y", list(number(2), want, number(1))))
		}
	}
	for _, v := range slices.Concat(plain, odd, []api.Value{list(number(3), number(1), number(2)), list(text("b"), text("a"))}) {
		if got := tree.Sort(v); !equal(got, v) {
			t.Errorf("Sort(%s) = %s", show(v), show(got))
		}
	}
}

// P7.2: of one name members stay as they stood, however many there are.
func TestSortStays(t *testing.T) {
	for _, n := range []int{10, 13, 50, 1000, 20000} {
		v := members()
		for i := range n {
			v.M = append(v.M, named(strconv.Itoa(i*7%5), number(int64(i))))
		}
		if got := tree.Sort(v); !equal(got, sorted(v)) {
			t.Fatalf("Sort of %d members = %s", n, show(got))
		}
	}
}

// checkSizes holds Count, Depth and Bytes against what is wanted.
func checkSizes(t *testing.T, v api.Value, count, depth, bytes int) {
	t.Helper()
	if c, d, b := tree.Count(v), tree.Depth(v), tree.Bytes(v); c != count || d != depth || b != bytes {
		t.Fatalf("Count, Depth, Bytes of %s = %d, %d, %d; want %d, %d, %d", show(v), c, d, b, count, depth, bytes)
	}
}

// P7.2: how many values there are, how deep they lie, how many bytes they have.
func TestSizes(t *testing.T) {
	for _, v := range slices.Concat(plain, odd) {
		n := len(v.S)
		checkSizes(t, v, 1, 1, n)
		checkSizes(t, list(v), 2, 2, n)
		checkSizes(t, list(v, list(v)), 4, 3, 2*n)
		checkSizes(t, list(list(v), v), 4, 3, 2*n)
		checkSizes(t, members(named("abc", v)), 2, 2, n+3)
		checkSizes(t, members(named("", v), named("\u00e9", members(named("z", v)))), 4, 3, 2*n+3)
		checkSizes(t, members(named("a", list(v)), named("a", v)), 4, 3, 2*n+2)
		checkSizes(t, list(members(named("ab", list(v, v)), named("c", v)), v), 7, 4, 4*n+3)
	}
	for _, n := range []int{1, 255, 256, 8191, 8192, 65536, 200000} {
		checkSizes(t, list(slices.Repeat([]api.Value{null()}, n)...), n+1, 2, 0)
		checkSizes(t, list(slices.Repeat([]api.Value{text("ab")}, n)...), n+1, 2, 2*n)
		checkSizes(t, list(slices.Repeat([]api.Value{row("a=1 bc=2")}, n)...), 3*n+1, 3, 3*n)
		checkSizes(t, members(slices.Repeat([]api.Member{named("abc", text("d"))}, n)...), n+1, 2, 4*n)
		checkSizes(t, text(strings.Repeat("a", n)), 1, 1, n)
		checkSizes(t, members(named(strings.Repeat("a", n), null())), 2, 2, n)
	}
}

// nest puts a value into lists and maps, so many times.
func nest(v api.Value, times int) api.Value {
	for i := range times {
		if i%2 == 0 {
			v = list(v)
		} else {
			v = members(named("ab", v))
		}
	}
	return v
}

// P7.2 and P1: values that lie as deep as the rules name.
func TestDeep(t *testing.T) {
	for _, times := range []int{15, 16, 17, 255, 256, 1 << 12, 1<<16 - 1} {
		v, names := nest(text("x"), times), times/2*2
		checkSizes(t, v, times+1, times+1, names+1)
		checkSizes(t, list(null(), v, null()), times+4, times+2, names+1)
		checkSizes(t, list(v, nest(null(), 3)), times+6, times+2, names+3)
		for _, w := range []api.Value{tree.Copy(v), tree.Sort(v)} {
			if !tree.Same(v, w) || !tree.Same(w, v) || !equal(v, w) {
				t.Fatalf("%d deep: another value", times)
			}
		}
		if tree.Same(v, nest(text("y"), times)) || tree.Same(v, nest(text("x"), times+2)) {
			t.Fatalf("%d deep: the same", times)
		}
	}
}

// P7.2 and P1: maps of many members, the last one first.
func TestManyMembers(t *testing.T) {
	const n = 300000
	v, w := members(), members()
	for i := range n {
		v.M = append(v.M, named("n"+strconv.Itoa(i), number(int64(i))))
	}
	for _, m := range slices.Backward(v.M) {
		w.M = append(w.M, m)
	}
	checkSame(t, v, w, true)
	if !equal(tree.Sort(v), sorted(v)) || !equal(tree.Sort(w), sorted(v)) {
		t.Fatal("many members: not in order")
	}
	w.M[0].Val = null()
	checkSame(t, v, w, false)
	if x, ok := tree.Get(v, "n299999"); !ok || !equal(x, number(n-1)) {
		t.Fatalf("the last of many is %s, %t", show(x), ok)
	}
	if x := tree.With(v, "n299999", null()); len(x.M) != n || !equal(x.M[n-1].Val, null()) {
		t.Fatalf("With the last of many is %s", show(x))
	}
	if x := tree.Without(v, "n299999"); len(x.M) != n-1 || x.M[n-2].Name != "n299998" {
		t.Fatalf("Without the last of many is %s", show(x))
	}
}

// P7.2: the section 'Examples'.
func TestExamples(t *testing.T) {
	a, b := row("b=1 a=2"), row("a=2 b=1")
	if !tree.Same(a, b) || !tree.Same(b, a) {
		t.Error("not the same")
	}
	if v := tree.Sort(a); !equal(v, b) {
		t.Errorf("Sort(%s) = %s", show(a), show(v))
	}
	if v := tree.Sort(b); !equal(v, b) {
		t.Errorf("Sort(%s) = %s", show(b), show(v))
	}
	if n := tree.Count(a); n != 3 {
		t.Errorf("Count(%s) = %d", show(a), n)
	}
}

// anyName tells a name by chance, one of few.
func anyName(random *rand.Rand) string {
	return []string{"a", "b", "", "ab", "\u00e9", "\xff", "A", "c", "d"}[random.Intn(9)]
}

// anyValue tells a value by chance, of parts no more than deep within one
// another; often a map in it has a name twice.
func anyValue(random *rand.Rand, deep int) api.Value {
	kind := random.Intn(8)
	if deep == 0 || kind < 3 {
		if random.Intn(6) == 0 {
			return odd[random.Intn(len(odd))]
		}
		return plain[random.Intn(len(plain))]
	}
	n, v := random.Intn(5), list()
	if kind < 5 {
		for range n {
			v.L = append(v.L, anyValue(random, deep-1))
		}
		return v
	}
	v = members()
	for range n {
		x := anyValue(random, deep-1)
		if len(v.M) > 0 && random.Intn(4) == 0 {
			x = v.M[0].Val
		}
		v.M = append(v.M, named(anyName(random), x))
	}
	return v
}

// mixed is a value with the members of its maps in another order, by chance.
func mixed(random *rand.Rand, v api.Value) api.Value {
	w := api.Value{Kind: v.Kind, N: v.N, S: v.S}
	for _, x := range v.L {
		w.L = append(w.L, mixed(random, x))
	}
	for _, i := range random.Perm(len(v.M)) {
		w.M = append(w.M, named(v.M[i].Name, mixed(random, v.M[i].Val)))
	}
	return w
}

// other is a value of which one thing is another, by chance.
func other(random *rand.Rand, v api.Value) api.Value {
	v = mixed(random, v)
	switch {
	case len(v.L) > 0 && random.Intn(4) > 0:
		i := random.Intn(len(v.L))
		v.L[i] = other(random, v.L[i])
	case len(v.M) > 0 && random.Intn(4) > 0:
		i := random.Intn(len(v.M))
		v.M[i].Val = other(random, v.M[i].Val)
	case len(v.M) > 0 && random.Intn(2) > 0:
		v.M[random.Intn(len(v.M))].Name = anyName(random)
	default:
		v = anyValue(random, 1)
	}
	return v
}

// checkSizesOf holds Count, Depth and Bytes against all values, one by one.
func checkSizesOf(t *testing.T, v api.Value) {
	t.Helper()
	all, depth, bytes := inOrder(v), 0, 0
	for _, x := range all {
		depth = max(depth, x.deep)
		bytes += len(x.v.S)
		for _, m := range x.v.M {
			bytes += len(m.Name)
		}
	}
	checkSizes(t, v, len(all), depth, bytes)
}

// checkMember holds Get, With and Without of any value against its members,
// one by one, and what follows of them.
func checkMember(t *testing.T, v api.Value, name string, x api.Value) {
	t.Helper()
	with, without, first := members(), members(), -1
	for i, m := range v.M {
		if m.Name != name {
			without.M = append(without.M, m)
		} else if first < 0 {
			first = i
			m.Val = x
		}
		with.M = append(with.M, m)
	}
	var want api.Value
	if first < 0 {
		with.M = append(with.M, named(name, x))
	} else {
		want = v.M[first].Val
	}
	if got, ok := tree.Get(v, name); ok != (first >= 0) || !equal(got, want) {
		t.Fatalf("Get(%s, %q) = %s, %t", show(v), name, show(got), ok)
	}
	if got := tree.With(v, name, x); !equal(got, with) {
		t.Fatalf("With(%s, %q, %s) = %s", show(v), name, show(x), show(got))
	}
	if got := tree.Without(v, name); !equal(got, without) {
		t.Fatalf("Without(%s, %q) = %s", show(v), name, show(got))
	}
	checkFollows(t, v, name, x)
}

// checkFollows holds Get of With and of Without against what was put in and
// nothing.
func checkFollows(t *testing.T, v api.Value, name string, x api.Value) {
	t.Helper()
	if got, ok := tree.Get(tree.With(v, name, x), name); !ok || !equal(got, x) {
		t.Fatalf("Get of With(%s, %q, %s) = %s, %t", show(v), name, show(x), show(got), ok)
	}
	if got, ok := tree.Get(tree.Without(v, name), name); ok || !equal(got, api.Value{}) {
		t.Fatalf("Get of Without(%s, %q) = %s, %t", show(v), name, show(got), ok)
	}
	if got, ok := tree.Get(tree.Without(tree.With(v, name, x), name), name); ok || !equal(got, api.Value{}) {
		t.Fatalf("Get of Without of With(%s, %q) = %s, %t", show(v), name, show(got), ok)
	}
}

// P7.1 to P7.3: values by chance.
func TestByChance(t *testing.T) {
	random := rand.New(rand.NewSource(7))
	told := map[bool]int{}
	for range 8000 {
		v := anyValue(random, 5)
		checkSizesOf(t, v)
		if v.Kind == api.Map && v.N == 0 && v.S == "" {
			checkMember(t, v, anyName(random), anyValue(random, 3))
		}
		if got := tree.Copy(v); !equal(got, v) {
			t.Fatalf("Copy(%s) = %s", show(v), show(got))
		}
		if got := tree.Sort(v); !equal(got, sorted(v)) {
			t.Fatalf("Sort(%s) = %s", show(v), show(got))
		}
		for _, w := range []api.Value{v, mixed(random, v), other(random, v), anyValue(random, 2)} {
			want := areSame(v, w)
			if tree.Same(v, w) != want {
				t.Fatalf("Same(%s, %s) is %t", show(v), show(w), !want)
			}
			told[want]++
		}
	}
	if told[true] < 5000 || told[false] < 5000 {
		t.Errorf("the same: %v", told)
	}
}

// P7.3: a value and what Sort tells of it are the same, if no map in it has a
// name twice.
func TestSameSorted(t *testing.T) {
	check := func(v api.Value) {
		t.Helper()
		if s := tree.Sort(v); !tree.Same(v, s) || !tree.Same(s, v) || !tree.Same(s, tree.Sort(s)) {
			t.Fatalf("%s and %s aren't the same", show(v), show(s))
		}
	}
	for _, v := range unlike() {
		check(v)
	}
	random, n := rand.New(rand.NewSource(73)), 0
	for range 6000 {
		if v := anyValue(random, 5); !hasTwice(v) {
			check(v)
			n++
		}
	}
	if n < 1000 {
		t.Errorf("only %d values without a name twice", n)
	}
}

// P7.3: Get of With is what was put in, of Without nothing, whatever they are
// asked of.
func TestFollows(t *testing.T) {
	for _, v := range slices.Concat(plain, odd, noMaps(), unlike(), []api.Value{row("a=1 a=2 =3 a=1 =4")}) {
		for _, name := range []string{"a", "", "b", "\xff"} {
			checkFollows(t, v, name, text("put in"))
			checkFollows(t, v, name, api.Value{})
			checkFollows(t, v, name, v)
		}
	}
}

// roomy is a value of new memory, whose lists have room to spare, with
// something in it.
func roomy(v api.Value) api.Value {
	l := make([]api.Value, 0, len(v.L)+2)
	for _, x := range v.L {
		l = append(l, roomy(x))
	}
	m := make([]api.Member, 0, len(v.M)+2)
	for _, x := range v.M {
		m = append(m, named(x.Name, roomy(x.Val)))
	}
	copy(l[len(l):cap(l)], []api.Value{text("spare"), number(7)})
	copy(m[len(m):cap(m)], []api.Member{named("spare", null()), named("b", number(7))})
	v.L, v.M = l, m
	return v
}

// whole is a value of new memory that has what another has, its lists' room
// to spare among it.
func whole(v api.Value) api.Value {
	w := v
	w.L, w.M = nil, nil
	for _, x := range v.L[:cap(v.L)] {
		w.L = append(w.L, whole(x))
	}
	for _, x := range v.M[:cap(v.M)] {
		w.M = append(w.M, named(x.Name, whole(x.Val)))
	}
	return w
}

// spoil writes over a value's lists and what is in them, their room to spare
// too, as deep as it is asked.
func spoil(v api.Value, deep int) {
	if deep == 0 {
		return
	}
	for i, x := range v.L[:cap(v.L)] {
		spoil(x, deep-1)
		v.L[:cap(v.L)][i] = text("spoiled")
	}
	for i, m := range v.M[:cap(v.M)] {
		spoil(m.Val, deep-1)
		v.M[:cap(v.M)][i] = named("spoiled", text("spoiled"))
	}
}

// checkStays holds what is handed in, its spare room too, against what it was
// ahead of all calls, also when their answers are written over.
func checkStays(t *testing.T, v, x api.Value, name string) {
	t.Helper()
	v, x = roomy(v), roomy(x)
	v2, x2 := whole(v), whole(x)
	check := func(call string) {
		t.Helper()
		if !reflect.DeepEqual(whole(v), v2) || !reflect.DeepEqual(whole(x), x2) {
			t.Fatalf("%s: what was handed in is %s and %s; it was %s and %s", call, show(whole(v)), show(whole(x)), show(v2), show(x2))
		}
	}
	tree.Get(v, name)
	tree.Same(v, x)
	tree.Same(x, v)
	tree.Count(v)
	tree.Depth(v)
	tree.Bytes(v)
	check("Get to Bytes")
	for _, answer := range []struct {
		call string
		v    api.Value
		deep int
	}{
		{"With", tree.With(v, name, x), 1}, {"With a new name", tree.With(v, name+"new", x), 1}, {"With itself", tree.With(v, name, v), 1},
		{"Without", tree.Without(v, name), 1}, {"Without nothing", tree.Without(v, name+"new"), 1},
		{"Sort", tree.Sort(v), math.MaxInt}, {"Copy", tree.Copy(v), math.MaxInt},
	} {
		check(answer.call)
		spoil(answer.v, answer.deep)
		check(answer.call + " written over")
	}
}

// P7.4: what is handed in stays; With, Without, Sort and Copy answer new memory.
func TestStays(t *testing.T) {
	for _, v := range slices.Concat(unlike(), noMaps()) {
		checkStays(t, v, row("z=1"), "a")
		checkStays(t, list(v, null(), v), v, "a")
		checkStays(t, members(named("b", v), named("a", v), named("", v), named("a", list(v))), v, "a")
	}
	random := rand.New(rand.NewSource(74))
	for range 3000 {
		checkStays(t, anyValue(random, 5), anyValue(random, 3), anyName(random))
	}
	checkStays(t, nest(row("b=1 a=2 c=3"), 300), null(), "ab")
}

// P7.4: what Get tells, and what With and Without share, is what was handed in.
func TestShared(t *testing.T) {
	v := members(named("b", row("y=1 x=2")), named("a", list(row("d=1 c=2"))))
	x := row("n=1 m=2")
	with, without := tree.With(v, "a", x), tree.Without(v, "a")
	if !equal(with, members(named("b", row("y=1 x=2")), named("a", row("n=1 m=2")))) || !equal(without, members(named("b", row("y=1 x=2")))) {
		t.Errorf("With, Without = %s, %s", show(with), show(without))
	}
	// What is put behind an answer's members changes neither of two answers.
	first, second := tree.With(v, "c", null()), tree.With(v, "d", null())
	_ = append(first.M, named("e", null()))
	_ = append(v.M, named("f", null()))
	if !equal(second, members(append(slices.Clone(v.M), named("d", null()))...)) || !equal(first, members(append(slices.Clone(v.M), named("c", null()))...)) {
		t.Errorf("With = %s, %s", show(first), show(second))
	}
}

// P7.4 and the rules: no two lists of one answer share any memory, though
// those of what was handed in do.
func TestApart(t *testing.T) {
	part := list(row("b=1 a=2"), number(1))
	v := list(part, members(named("y", part), named("x", part)), part)
	for _, answer := range []api.Value{tree.Copy(v), tree.Sort(v)} {
		spoil(answer.L[0], math.MaxInt)
		spoil(answer.L[1].M[0].Val, math.MaxInt)
		want := list(sorted(part).L...)
		for _, got := range []api.Value{answer.L[1].M[1].Val, answer.L[2]} {
			if !equal(sorted(got), want) {
				t.Fatalf("a part became %s", show(got))
			}
		}
		if !equal(v, list(part, members(named("y", part), named("x", part)), part)) || !equal(part, list(row("b=1 a=2"), number(1))) {
			t.Fatalf("what was handed in became %s", show(v))
		}
	}
}

// P7.4 and the rules: nothing is kept of a value that is changed behind a call.
func TestNothingKept(t *testing.T) {
	v, x := members(named("b", row("y=1 x=2")), named("a", list(number(1), text("x")))), row("q=1 p=2")
	first := []api.Value{tree.Copy(v), tree.Sort(v), tree.With(number(1), "n", number(2)), tree.Without(number(1), "n")}
	spoil(v, math.MaxInt)
	spoil(x, math.MaxInt)
	want := []api.Value{members(named("b", row("y=1 x=2")), named("a", list(number(1), text("x")))),
		members(named("a", list(number(1), text("x"))), named("b", row("x=2 y=1"))), row("n=2"), members()}
	if !slices.EqualFunc(first, want, equal) {
		t.Fatalf("the answers became %v", first)
	}
	if got := tree.Sort(v); !equal(got, members(named("spoiled", text("spoiled")), named("spoiled", text("spoiled")))) {
		t.Fatalf("Sort(%s) = %s", show(v), show(got))
	}
}

// P1: every call ends, also of values with parts that their kind doesn't have.
func TestAnything(t *testing.T) {
	for _, v := range slices.Concat(plain, odd) {
		v.L, v.M = []api.Value{row("b=1 a=2"), {}, v}, []api.Member{named("b", v), named("", api.Value{}), named("a", list(v))}
		for _, w := range []api.Value{v, list(v), members(named("a", v)), {}} {
			checkStays(t, w, v, "a")
			checkFollows(t, w, "a", v)
			tree.Same(v, w)
			tree.Same(w, v)
			if c, d, b := tree.Count(w), tree.Depth(w), tree.Bytes(w); c < 1 || d < 1 || b < 0 {
				t.Fatalf("Count, Depth, Bytes of %s = %d, %d, %d", show(w), c, d, b)
			}
		}
	}
}
