package card_test

import (
	"math/rand"
	"slices"
	"strconv"
	"strings"
	"testing"

	"cardbox/api"
	"cardbox/card"
	"cardbox/emit"
	"cardbox/schema"
	"cardbox/tree"
)

// equal tells whether two values have the same in all their fields, members in
// their order; lists of nothing are one.
func equal(a, b api.Value) bool {
	return a.Kind == b.Kind && a.N == b.N && a.S == b.S && slices.EqualFunc(a.L, b.L, equal) &&
		slices.EqualFunc(a.M, b.M, func(x, y api.Member) bool { return x.Name == y.Name && equal(x.Val, y.Val) })
}

// checkNormal holds the normal form of a right card against what is wanted.
func checkNormal(t *testing.T, v, want api.Value) {
	t.Helper()
	checkNames(t, v)
	if got := card.Normal(v); !equal(got, want) {
		t.Fatalf("Normal(%s) = %s; want %s", emit.Long(v), emit.Long(got), emit.Long(want))
	}
	if got := card.Normal(want); !equal(got, want) {
		t.Fatalf("the normal form of the normal form %s is %s", emit.Long(want), emit.Long(got))
	}
	checkNames(t, want)
	checkRight(t, "Card", want, true)
}

// checkSorted holds the normal form of what is no right card against itself,
// sorted. (Of what is no right value nothing is told of it.)
func checkSorted(t *testing.T, v api.Value) {
	t.Helper()
	if len(card.Check(v)) == 0 {
		t.Fatalf("%s is right", show(v))
	}
	if got, want := card.Normal(v), tree.Sort(v); emit.Check(v) == api.OK && !equal(got, want) {
		t.Fatalf("Normal(%s) = %s; want %s", emit.Long(v), emit.Long(got), emit.Long(want))
	}
}

// checkText holds the normal form of a card against a text.
func checkText(t *testing.T, v, want string) {
	t.Helper()
	checkNormal(t, value(v), value(want))
	if got, e := emit.Text(card.Normal(value(v))); e != api.OK || got != want {
		t.Fatalf("Normal(%s) = %s; want %s", v, got, want)
	}
}

// P14.2: members @type are left out, but that of a Timestamp.
func TestNormalTypes(t *testing.T) {
	for _, x := range []struct{ name, v, want string }{
		{"@type", `"Card"`, ``},
		{"name", `{"@type":"Name"}`, `{}`},
		{"name", `{"@type":"Name","components":[{"@type":"NameComponent","kind":"given","value":"a"},{"kind":"given","value":"@type"}]}`, `{"components":[{"kind":"given","value":"a"},{"kind":"given","value":"@type"}]}`},
		{"addresses", `{"a":{"@type":"Address","components":[{"@type":"AddressComponent","kind":"name","value":"x"}]},"b":{"@type":"Address"}}`, `{"a":{"components":[{"kind":"name","value":"x"}]},"b":{}}`},
		{"anniversaries", `{"a":{"@type":"Anniversary","date":{"@type":"PartialDate"},"kind":"birth"}}`, `{"a":{"date":{},"kind":"birth"}}`},
		{"anniversaries", `{"a":{"@type":"Anniversary","date":{"@type":"PartialDate","year":1},"kind":"birth"}}`, `{"a":{"date":{"year":1},"kind":"birth"}}`},
		{"anniversaries", `{"a":{"@type":"Anniversary","date":{"utc":"2000-01-01T00:00:00Z","@type":"Timestamp"},"kind":"birth"}}`, `{"a":{"date":{"@type":"Timestamp","utc":"2000-01-01T00:00:00Z"},"kind":"birth"}}`},
		{"organizations", `{"o":{"@type":"Organization","units":[{"@type":"OrgUnit","name":"a"},{"name":"b","@type":"OrgUnit"}]}}`, `{"o":{"units":[{"name":"a"},{"name":"b"}]}}`},
		// Names that are no members of objects stay.
		{"relatedTo", `{"@type":{"@type":"Relation","relation":{"kin":true}},"kind":{"@type":"Relation"}}`, `{"@type":{"relation":{"kin":true}},"kind":{}}`},
		{"keywords", `{"@type":true,"kind":true}`, `{"@type":true,"kind":true}`},
		{"titles", `{"kind":{"@type":"Title","name":"a"},"type":{"name":"@type"}}`, `{"kind":{"name":"a"},"type":{"name":"@type"}}`},
		// What stands in members of names of others stays.
		{"a:b", `{"@type":"Name","isOrdered":false}`, `{"@type":"Name","isOrdered":false}`},
		{"@type:x", `[{"@type":"Title","kind":"title"},{"kind":"individual"}]`, `[{"@type":"Title","kind":"title"},{"kind":"individual"}]`},
		{"name", `{"@type":"Name","x:y":{"@type":"NameComponent","isOrdered":false}}`, `{"x:y":{"@type":"NameComponent","isOrdered":false}}`},
	} {
		v := more(least("Card"), named(x.name, value(x.v)))
		want := least("Card")
		if x.want != "" {
			want = more(want, named(x.name, value(x.want)))
			slices.SortFunc(want.M, func(a, b api.Member) int { return strings.Compare(a.Name, b.Name) })
		}
		checkNormal(t, v, want)
		checkNormal(t, more(members(named(x.name, value(x.v)), named("@type", text("Card"))), least("Card").M...), want)
	}
	for _, of := range schema.Types() {
		if of == "Card" || of == "Timestamp" {
			continue
		}
		plain, _ := within(of, least(of))
		for _, v := range []api.Value{more(least(of), named("@type", text(of))), more(members(named("@type", text(of))), least(of).M...)} {
			typed, _ := within(of, v)
			checkNormal(t, typed, tree.Sort(plain))
		}
	}
	stamped, _ := within("Timestamp", value(`{"utc":"2000-01-01T00:00:00Z","a:b":1,"@type":"Timestamp"}`))
	checkNormal(t, stamped, tree.Sort(stamped))
}

// P14.2: members whose value is their default are left out, and no others.
func TestNormalDefaults(t *testing.T) {
	for _, x := range []struct{ v, want string }{
		{`{"kind":"individual"}`, `{}`}, {`{"kind":"org"}`, `{"kind":"org"}`}, {`{"kind":"group","members":{}}`, `{"kind":"group","members":{}}`},
		{`{"addresses":{"a":{"isOrdered":false},"b":{"isOrdered":true}}}`, `{"addresses":{"a":{},"b":{"isOrdered":true}}}`},
		{`{"name":{"isOrdered":false}}`, `{"name":{}}`}, {`{"name":{"isOrdered":true}}`, `{"name":{"isOrdered":true}}`},
		{`{"name":{"isOrdered":false,"full":"","components":[],"defaultSeparator":""}}`, `{"name":{"components":[],"defaultSeparator":"","full":""}}`},
		{`{"titles":{"t":{"kind":"title","name":""},"u":{"kind":"role","name":"title"},"v":{"name":"x"}}}`, `{"titles":{"t":{"name":""},"u":{"kind":"role","name":"title"},"v":{"name":"x"}}}`},
		// What stands for nothing elsewhere stays.
		{`{"name":{"components":[{"kind":"title","value":"title"}]}}`, `{"name":{"components":[{"kind":"title","value":"title"}]}}`},
		{`{"prodId":""}`, `{"prodId":""}`}, {`{"prodId":"individual"}`, `{"prodId":"individual"}`}, {`{"keywords":{}}`, `{"keywords":{}}`}, {`{"emails":{}}`, `{"emails":{}}`},
		{`{"organizations":{"o":{"name":"","units":[],"contexts":{}}}}`, `{"organizations":{"o":{"contexts":{},"name":"","units":[]}}}`},
		{`{"anniversaries":{"a":{"kind":"birth","date":{"year":0}}}}`, `{"anniversaries":{"a":{"date":{"year":0},"kind":"birth"}}}`},
		{`{"links":{"l":{"uri":"a:b","kind":"contact","pref":1}}}`, `{"links":{"l":{"kind":"contact","pref":1,"uri":"a:b"}}}`},
		{`{"a:b":{"kind":"individual","isOrdered":false},"c:kind":"individual"}`, `{"a:b":{"isOrdered":false,"kind":"individual"},"c:kind":"individual"}`},
		{`{"titles":{"kind":{"name":"individual","kind":"title","a:b":"title"}}}`, `{"titles":{"kind":{"a:b":"title","name":"individual"}}}`},
	} {
		v, want := value(x.v), tree.Sort(more(value(x.want), least("Card").M...))
		checkNormal(t, more(v, least("Card").M...), want)
		checkNormal(t, more(least("Card"), v.M...), want)
	}
}

// P14.2: members stand in the order of their names, byte by byte, at every
// depth; values of lists stay where they stand.
func TestNormalOrder(t *testing.T) {
	checkText(t, `{"version":"1.0","uid":"u","é:z":1,"Z:z":2,"a:z":3,"name":{"full":"x","components":[{"value":"b","kind":"given"},{"value":"a","kind":"given"}]},"A:z":[{"z":1,"y":{"b":2,"a":[{"d":3,"c":null}]}},2,1]}`,
		`{"A:z":[{"y":{"a":[{"c":null,"d":3}],"b":2},"z":1},2,1],"Z:z":2,"a:z":3,"name":{"components":[{"kind":"given","value":"b"},{"kind":"given","value":"a"}],"full":"x"},"uid":"u","version":"1.0","é:z":1}`)
	checkText(t, `{"version":"1.0","uid":"u","emails":{"e2":{"pref":1,"address":"x","contexts":{"work":true,"private":true}},"e10":{"label":"l","address":"y"},"E":{"address":"","z:z":{"b":{"d":1,"c":2},"a":1},"y:y":0}}}`,
		`{"emails":{"E":{"address":"","y:y":0,"z:z":{"a":1,"b":{"c":2,"d":1}}},"e10":{"address":"y","label":"l"},"e2":{"address":"x","contexts":{"private":true,"work":true},"pref":1}},"uid":"u","version":"1.0"}`)
	checkText(t, `{"version":"1.0","uid":"u","relatedTo":{"b":{"relation":{"spouse":true,"agent":true}},"é":{"relation":{}},"a":{"x:y":{"2":1,"10":2}}},"keywords":{"z":true,"Z":true,"zz":true}}`,
		`{"keywords":{"Z":true,"z":true,"zz":true},"relatedTo":{"a":{"x:y":{"10":2,"2":1}},"b":{"relation":{"agent":true,"spouse":true}},"é":{"relation":{}}},"uid":"u","version":"1.0"}`)
}

// P14.2: the normal form of what is no right card is itself, sorted: nothing is
// left out.
func TestNormalOfWrong(t *testing.T) {
	for _, s := range []string{
		`{}`, `null`, `[]`, `1`, `"u"`, `[{"b":1,"a":2}]`, `{"uid":"u"}`, `{"version":"1.0","uid":"u","zz":1,"@type":"Card","kind":"individual"}`, `{"version":"1.0","uid":"","@type":"Card","kind":"individual"}`,
		`{"version":"1.0","uid":"u","name":{"isOrdered":false,"@type":"Name","z":1},"kind":"individual"}`, `{"version":"1.0","uid":"u","kind":"individual","members":{"b":true,"a":true},"@type":"Card"}`, `{"version":"1.0","uid":"u","titles":{"t":{"kind":"title","@type":"Title","name":"x"}},"@type":"card"}`,
		`{"version":"2.0","uid":"u","a:b":{"d":[{"z":1,"y":{"x":1,"w":2}}],"c":1},"titles":{"t":{"name":"x","kind":"title","@type":"Title"}}}`,
		`{"version":"1.0","uid":"u","anniversaries":{"a":{"@type":"Anniversary","kind":"birth","date":{"@type":"PartialDate","month":13}}}}`,
	} {
		checkSorted(t, value(s))
	}
	checkText(t, `{"version":"1.0","uid":"u","kind":"individual","@type":"Card"}`, `{"uid":"u","version":"1.0"}`)
	if got := emit.Long(card.Normal(value(`{"version":"1.0","uid":"u","kind":"individual","@type":"card"}`))); got != `{"@type":"card","kind":"individual","uid":"u","version":"1.0"}` {
		t.Error(got)
	}
	for _, of := range schema.Types() {
		if of != "Card" {
			checkSorted(t, more(least(of), named("@type", text(of))))
		}
		for _, v := range badObjects(of) {
			if of != "Card" {
				v, _ = within(of, more(members(named("x:y", null)), v.M...))
			}
			if of != "Timestamp" {
				checkSorted(t, v)
			}
		}
	}
	for _, v := range kinds() {
		checkSorted(t, v)
	}
}

// pair is an object in its normal form, and the same one written otherwise.
type pair struct{ plain, full api.Value }

// maker makes objects by chance.
type maker struct{ *rand.Rand }

// one is one of some values.
func (r maker) one(all []api.Value) api.Value { return all[r.Intn(len(all))] }

// object makes a right object of a type.
func (r maker) object(of string) pair {
	plain, full := members(), members()
	add := func(name string, x pair) {
		plain, full = more(plain, named(name, x.plain)), more(full, named(name, x.full))
	}
	for _, p := range schema.Props(of) {
		if !p.Must && (r.Intn(3) > 0 || p.Name == "members") {
			continue
		}
		if p.Default != "" && r.Intn(2) == 0 {
			full = more(full, named(p.Name, defaultOf(p)))
			continue
		}
		if x := r.value(p); p.Default == "" || !equal(x.plain, defaultOf(p)) {
			add(p.Name, x)
		}
	}
	if kind, _ := tree.Get(full, "kind"); of == "Card" && kind.S == "group" {
		add("members", pair{value(`{"a":true}`), value(`{"a":true}`)})
	}
	for range r.Intn(2) * r.Intn(3) {
		v := r.any(3)
		add(string(rune('a'+r.Intn(26)))+strconv.Itoa(len(full.M))+":@type", pair{tree.Sort(v), v})
	}
	if of == "Timestamp" {
		add("@type", pair{text(of), text(of)})
	} else if r.Intn(2) == 0 {
		full = more(full, named("@type", text(of)))
	}
	r.shuffle(full)
	slices.SortFunc(plain.M, func(a, b api.Member) int { return strings.Compare(a.Name, b.Name) })
	return pair{plain, full}
}

// shuffle puts the members of a map in another order.
func (r maker) shuffle(v api.Value) {
	r.Shuffle(len(v.M), func(i, j int) { v.M[i], v.M[j] = v.M[j], v.M[i] })
}

// defaultOf is the value that stands for a member.
func defaultOf(p schema.Prop) api.Value {
	if p.Form == 3 {
		return truth(0)
	}
	return text(p.Default)
}

// any makes any value, so many deep at most.
func (r maker) any(deep int) api.Value {
	if deep > 0 && r.Intn(2) == 0 {
		l := list()
		for range r.Intn(3) {
			l.L = append(l.L, r.any(deep-1))
		}
		return l
	}
	if deep > 0 && r.Intn(2) == 0 {
		m := members()
		for _, i := range r.Perm(4)[:r.Intn(4)] {
			m = more(m, named([]string{"@type", "kind", "isOrdered", "uid"}[i], r.any(deep-1)))
		}
		return m
	}
	return r.one([]api.Value{null, truth(0), truth(1), number(7), text("title"), text("individual"), text("Card"), text("Name"), text("Timestamp"), list(), members()})
}

// value makes a value that has the form of a member.
func (r maker) value(p schema.Prop) pair {
	switch p.Form {
	case 12:
		return r.object(p.Arg)
	case 13:
		all := pair{list(), list()}
		for range r.Intn(4) {
			x := r.object(p.Arg)
			all.plain.L, all.full.L = append(all.plain.L, x.plain), append(all.full.L, x.full)
		}
		return all
	case 14, 15:
		all := pair{members(), members()}
		for i := range r.Intn(3) {
			name, x := string(rune('a'+2*i+r.Intn(2))), r.object(p.Arg)
			all.plain, all.full = more(all.plain, named(name, x.plain)), more(all.full, named(name, x.full))
		}
		r.shuffle(all.full)
		return all
	case 18:
		if r.Intn(2) == 0 {
			return r.object("Timestamp")
		}
		return r.date()
	}
	v := r.one(goodValues(p))
	for emit.Check(v) != api.OK {
		v = r.one(goodValues(p))
	}
	return pair{tree.Sort(v), v}
}

// date makes a date that is no point in time.
func (r maker) date() pair {
	x := r.object("PartialDate")
	for _, name := range []string{"year", "month", "day"} {
		if _, is := tree.Get(x.full, name); is {
			n := number(int64(1 + r.Intn(12)))
			x.plain, x.full = tree.With(x.plain, name, n), tree.With(x.full, name, n)
		}
	}
	return x
}

// spoil is a right object of a type that was made wrong somewhere.
func (r maker) spoil(of string, v api.Value) api.Value {
	switch r.Intn(4) {
	case 0:
		return more(v, named([]string{"zz", "", "a:", ":b"}[r.Intn(4)], r.any(1)))
	case 1:
		return put(v, "@type", r.one([]api.Value{null, text("zz"), text("@type"), text(of + "s"), number(1)}))
	}
	m := slices.Clone(v.M)
	r.Shuffle(len(m), func(i, j int) { m[i], m[j] = m[j], m[i] })
	for _, x := range m {
		if p, is := schema.Find(of, x.Name); is {
			return tree.With(v, x.Name, r.spoilValue(p, x.Val))
		}
	}
	return more(v, named("zz", null))
}

// spoilValue is a value of the form of a member that was made wrong somewhere.
func (r maker) spoilValue(p schema.Prop, v api.Value) api.Value {
	of, _ := tree.Get(v, "@type")
	switch {
	case p.Form == 12 && r.Intn(4) > 0:
		return r.spoil(p.Arg, v)
	case p.Form == 18 && of.S != "Timestamp" && r.Intn(2) > 0:
		return r.spoil("PartialDate", v)
	case p.Form == 13 && len(v.L) > 0 && r.Intn(4) > 0:
		l := slices.Clone(v.L)
		i := r.Intn(len(l))
		l[i] = r.spoil(p.Arg, l[i])
		return list(l...)
	case p.Form >= 14 && p.Form <= 15 && len(v.M) > 0 && r.Intn(4) > 0:
		m := v.M[r.Intn(len(v.M))]
		return tree.With(v, m.Name, r.spoil(p.Arg, m.Val))
	}
	if bad := badValues(p); len(bad) > 0 && r.Intn(2) == 0 {
		return r.one(bad)
	}
	return null
}

// P14.1, P14.2, P14.3: cards that are made by chance, in their normal form and
// otherwise, right ones and such as were made wrong in some members.
func TestByChance(t *testing.T) {
	r := maker{rand.New(rand.NewSource(141))}
	for range 6000 {
		x := r.object("Card")
		checkNormal(t, x.full, x.plain)
		checkNormal(t, x.plain, x.plain)
		if len(x.plain.M) != len(x.full.M) {
			checkNames(t, more(x.full, x.plain.M...))
		}
		wrong, names := x.full, []string{}
		for _, i := range r.Perm(len(x.full.M))[:1+r.Intn(3)%len(x.full.M)] {
			name := x.full.M[i].Name
			if p, is := schema.Find("Card", name); is && name != "kind" {
				wrong, names = tree.With(wrong, name, r.spoilValue(p, x.full.M[i].Val)), append(names, name)
			}
		}
		slices.Sort(names)
		checkNames(t, wrong, names...)
		checkRight(t, "Card", wrong, len(names) == 0)
		if len(names) > 0 {
			checkSorted(t, wrong)
		}
	}
}

// P14.3: cards that are unlike in @type, in defaults and in the order of
// members alone have one normal form, cards that are unlike otherwise don't.
func TestUnlike(t *testing.T) {
	same := []string{
		`{"uid":"u","version":"1.0","name":{"components":[{"kind":"given","value":"a"}]},"titles":{"t":{"name":"x"}},"a:b":{"y":2,"z":1}}`,
		`{"version":"1.0","uid":"u","kind":"individual","@type":"Card","a:b":{"z":1,"y":2},"titles":{"t":{"kind":"title","name":"x"}},"name":{"isOrdered":false,"components":[{"value":"a","kind":"given","@type":"NameComponent"}]}}`,
		`{"a:b":{"z":1,"y":2},"@type":"Card","titles":{"t":{"name":"x","@type":"Title"}},"name":{"@type":"Name","components":[{"value":"a","kind":"given"}]},"uid":"u","kind":"individual","version":"1.0"}`,
	}
	for _, s := range same {
		checkNormal(t, value(s), value(`{"a:b":{"y":2,"z":1},"name":{"components":[{"kind":"given","value":"a"}]},"titles":{"t":{"name":"x"}},"uid":"u","version":"1.0"}`))
	}
	for _, x := range []struct{ old, new string }{
		{`"u"`, `"v"`}, {`"given"`, `"surname"`}, {`"a"}`, `"b"}`}, {`"titles":{"t"`, `"titles":{"s"`}, {`"name":"x"`, `"name":"x","kind":"role"`}, {`"y":2`, `"y":3`}, {`"a:b"`, `"a:c"`},
		{`"uid"`, `"kind":"org","uid"`}, {`"components"`, `"isOrdered":true,"components"`}, {`"y":2`, `"y":2,"@type":"Card"`}, {`"y":2`, `"y":2,"kind":"individual"`}, {`"uid"`, `"keywords":{},"uid"`},
	} {
		v := value(strings.Replace(same[0], x.old, x.new, 1))
		checkNames(t, v)
		if equal(card.Normal(v), card.Normal(value(same[0]))) {
			t.Errorf("with %s for %s the normal form is the same", x.new, x.old)
		}
	}
	r := maker{rand.New(rand.NewSource(143))}
	for range 500 {
		x := r.object("Card")
		for range 3 {
			r.shuffle(x.full)
			checkNormal(t, x.full, x.plain)
		}
	}
}

// roomy is a value whose lists all have spare room, with something in it.
func roomy(v api.Value) api.Value {
	if len(v.L) > 0 || v.Kind == api.List {
		l := make([]api.Value, 0, len(v.L)+2)
		for _, x := range v.L {
			l = append(l, roomy(x))
		}
		v.L = l
		_ = append(l, text("spare"), number(9))
	}
	if len(v.M) > 0 || v.Kind == api.Map {
		m := make([]api.Member, 0, len(v.M)+2)
		for _, x := range v.M {
			m = append(m, named(x.Name, roomy(x.Val)))
		}
		v.M = m
		_ = append(m, named("spare", number(9)), named("@type", list()))
	}
	return v
}

// places are where the values and members of a value's lists stand, their spare
// room too.
func places(v api.Value, f func(any)) {
	for i := range v.L[:cap(v.L)] {
		f(&v.L[:cap(v.L)][i])
	}
	for i := range v.M[:cap(v.M)] {
		f(&v.M[:cap(v.M)][i])
	}
	for _, x := range v.L {
		places(x, f)
	}
	for _, m := range v.M {
		places(m.Val, f)
	}
}

// scribble writes over all of a value's lists, their spare room too.
func scribble(v api.Value) {
	for _, x := range v.L {
		scribble(x)
	}
	for _, m := range v.M {
		scribble(m.Val)
	}
	places(api.Value{L: v.L, M: v.M}, func(p any) {
		switch p := p.(type) {
		case *api.Value:
			*p = text("over")
		case *api.Member:
			*p = named("over", text("over"))
		}
	})
}

// whole is a value with its lists' spare room.
func whole(v api.Value) api.Value {
	w := api.Value{Kind: v.Kind, N: v.N, S: v.S}
	for _, x := range v.L[:cap(v.L)] {
		w.L = append(w.L, whole(x))
	}
	for _, m := range v.M[:cap(v.M)] {
		w.M = append(w.M, named(m.Name, whole(m.Val)))
	}
	return w
}

// P14.4: what is handed in stays, its spare room too; what is answered is new
// memory, no two lists of which are one, and may be written over.
func TestMemory(t *testing.T) {
	r := maker{rand.New(rand.NewSource(144))}
	var all []api.Value
	for range 300 {
		x := r.object("Card")
		all = append(all, x.plain, x.full, more(x.full, named("zz", list(members(named("b", null), named("a", null))))), more(x.full, named("uid", null), named("version", null), named("@type", null)), list(x.full, x.plain))
	}
	for _, v := range slices.Concat(all, kinds(), badObjects("Card"), badObjects("Name")) {
		v = roomy(v)
		before := whole(v)
		names, normal := card.Check(v), card.Normal(v)
		right := card.Right("Card", v)
		if !equal(whole(v), before) {
			t.Fatalf("%s was changed", show(v))
		}
		taken := map[any]int{}
		places(v, func(p any) { taken[p]++ })
		places(normal, func(p any) {
			if taken[p]++; taken[p] > 1 {
				t.Fatalf("Normal(%s) shares a list", show(v))
			}
		})
		wantNames, want := slices.Clone(names), tree.Copy(normal)
		scribble(normal)
		for i := range names[:cap(names)] {
			names[:cap(names)][i] = "over"
		}
		if !equal(whole(v), before) {
			t.Fatalf("%s was changed by what was answered", show(v))
		}
		checkNames(t, v, wantNames...)
		checkRight(t, "Card", v, right)
		again := card.Normal(v)
		if !equal(again, want) {
			t.Fatalf("Normal(%s) = %s; want %s, as ahead", show(v), show(again), show(want))
		}
		scribble(v)
		if !equal(again, want) {
			t.Fatalf("what Normal told was changed by what was handed in: %s; want %s", show(again), show(want))
		}
	}
}

// P1: all calls end, and none panics: values that lie deep.
func TestDeep(t *testing.T) {
	deepList, deepMap := null, null
	for range 1<<16 - 3 {
		deepList, deepMap = list(deepList), members(named("x:y", deepMap))
	}
	c := least("Card")
	for _, deep := range []api.Value{deepList, deepMap} {
		right := more(c, named("a:b", deep))
		checkNames(t, right)
		card.Normal(right)
		for _, name := range []string{"uid", "zz", "@type", "keywords", "titles", "phones"} {
			v := put(c, name, deep)
			checkNames(t, v, name)
			card.Normal(v)
		}
		for _, of := range schema.Types() {
			// Names of others keep no object from being right.
			must := slices.ContainsFunc(schema.Props(of), func(p schema.Prop) bool { return p.Must })
			checkRight(t, of, deep, deep.Kind == api.Map && !must)
		}
	}
}

// P1: lists and maps of many values and members.
func TestMany(t *testing.T) {
	const many = 1 << 19
	c := least("Card")
	units, others, wrong := list(), members(), members()
	for i := range many {
		units.L = append(units.L, least("OrgUnit"))
		others.M = append(others.M, named("a:"+strconv.Itoa(i), null))
		wrong.M = append(wrong.M, named(strconv.Itoa(i%1000), null))
	}
	checkNames(t, more(c, named("organizations", members(named("o", members(named("units", units)))))))
	checkNames(t, more(others, c.M...))
	if got := card.Check(more(wrong, c.M...)); len(got) != 1000 || !slices.IsSorted(got) {
		t.Fatalf("%d names", len(got))
	}
	card.Normal(more(others, c.M...))
	card.Normal(more(wrong, c.M...))
}

// P1: values that have what their kind doesn't name.
func TestStray(t *testing.T) {
	c := least("Card")
	for _, v := range kinds() {
		stray := api.Value{Kind: v.Kind, N: v.N, S: v.S, L: []api.Value{c, v}, M: slices.Concat(v.M, c.M)}
		for _, w := range []api.Value{v, stray, more(c, named("name", stray)), more(c, named("titles", stray)), list(stray), more(c, named("a:b", stray)), more(c, stray.M...)} {
			card.Check(w)
			card.Normal(w)
			for _, of := range append(schema.Types(), "", "zz") {
				card.Right(of, w)
			}
		}
	}
}

// The section 'Examples'.
func TestExamples(t *testing.T) {
	checkNames(t, value(`{"version":"1.0","uid":"u"}`))
	checkNames(t, value(`{"uid":"","x":1}`), "uid", "version", "x")
	checkText(t, `{"@type":"Card","version":"1.0","uid":"u","kind":"individual","a.b:c":{"z":1,"y":2}}`, `{"a.b:c":{"y":2,"z":1},"uid":"u","version":"1.0"}`)
}
