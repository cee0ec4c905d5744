package store_test

import (
	"fmt"
	"math"
	"math/rand"
	"slices"
	"sort"
	"strconv"
	"strings"
	"testing"
	"unsafe"

	"cardbox/api"
	"cardbox/store"
)

// number, text, list and members make values.
func number(n int64) api.Value { return api.Value{Kind: api.Int, N: n} }

func text(s string) api.Value { return api.Value{Kind: api.Text, S: s} }

func list(l ...api.Value) api.Value { return api.Value{Kind: api.List, L: l} }

func members(m ...api.Member) api.Value { return api.Value{Kind: api.Map, M: m} }

// named makes a member.
func named(name string, v api.Value) api.Member { return api.Member{Name: name, Val: v} }

// object makes an object whose value is a number.
func object(id string, n int64) api.Object { return api.Object{Id: id, Val: number(n)} }

// objects makes objects out of a text like "a=1 b=2 =3": ids and numbers.
func objects(s string) []api.Object {
	var l []api.Object
	for _, x := range strings.Fields(s) {
		at := strings.LastIndexByte(x, '=')
		n, err := strconv.ParseInt(x[at+1:], 10, 64)
		if err != nil {
			panic(err)
		}
		l = append(l, object(x[:at], n))
	}
	return l
}

// entry makes an entry.
func entry(seq int64, id string, what int) api.Entry {
	return api.Entry{Seq: seq, Id: id, What: what}
}

// behind makes a trail whose Seqs are those behind a number: of each entry a
// sign (+ Made, * Changed, ! Gone) and an id.
func behind(floor int64, s string) []api.Entry {
	var l []api.Entry
	for i, x := range strings.Fields(s) {
		l = append(l, entry(floor+int64(i)+1, x[1:], strings.IndexByte("+*!", x[0])+api.Made))
	}
	return l
}

// box makes a box of objects, a floor, a trail above it, and how many entries
// are kept.
func box(l string, floor int64, trail string, keep int) api.Box {
	b := api.Box{Objects: objects(l), Trail: behind(floor, trail), Floor: floor, Keep: keep}
	b.Seq = floor + int64(len(b.Trail))
	return b
}

// equal tells whether two values have the same in all their fields, members in
// their order; lists of nothing are one.
func equal(a, b api.Value) bool {
	return a.Kind == b.Kind && a.N == b.N && a.S == b.S && slices.EqualFunc(a.L, b.L, equal) &&
		slices.EqualFunc(a.M, b.M, func(x, y api.Member) bool { return x.Name == y.Name && equal(x.Val, y.Val) })
}

// equalObjects is equal of objects.
func equalObjects(a, b []api.Object) bool {
	return slices.EqualFunc(a, b, func(x, y api.Object) bool { return x.Id == y.Id && equal(x.Val, y.Val) })
}

// equalBoxes is equal of boxes.
func equalBoxes(a, b api.Box) bool {
	return equalObjects(a.Objects, b.Objects) && slices.Equal(a.Trail, b.Trail) && a.Seq == b.Seq && a.Floor == b.Floor && a.Keep == b.Keep
}

// show is what a message shows of anything.
func show(v any) string {
	s := fmt.Sprintf("%q", fmt.Sprint(v))
	return s[:min(len(s), 400)]
}

// numbers are such as stand at ends, and some others.
func numbers() []int64 {
	return []int64{math.MinInt64, math.MinInt64 + 1, -api.MaxSafe - 1, -api.MaxSafe, -1 << 32, -2, -1, 0, 1, 2, 3, 1 << 31, 1 << 32, 1<<32 + 5, api.MaxSafe - 2, api.MaxSafe - 1, api.MaxSafe, api.MaxSafe + 1, api.MaxSafe + 2, math.MaxInt64 - 1, math.MaxInt64}
}

// keeps are numbers of entries that may be kept, and others.
func keeps() []int {
	return []int{math.MinInt, math.MinInt + 1, -1 << 31, -api.MaxKeep, -2, -1, 0, 1, 2, 500, api.MaxKeep - 1, api.MaxKeep, api.MaxKeep + 1, 1<<31 - 1, 1 << 31, 1 << 32, 1<<32 + 5, math.MaxInt - 1, math.MaxInt}
}

// rightOf is what Right ought to tell: each thing is held against all others.
func rightOf(b api.Box) bool {
	if b.Keep < 0 || b.Keep > 1000 || len(b.Trail) > b.Keep || b.Floor < 0 || b.Seq > 1<<53-1 || b.Seq-b.Floor != int64(len(b.Trail)) {
		return false
	}
	for i, o := range b.Objects {
		for _, x := range b.Objects[:i] {
			if strings.Compare(x.Id, o.Id) != -1 {
				return false
			}
		}
	}
	last := map[string]int{}
	for i, e := range b.Trail {
		ahead := last[e.Id]
		if e.Seq != b.Floor+int64(i)+1 || e.What < api.Made || e.What > api.Gone || ahead == api.Gone || e.What == api.Made && ahead != 0 {
			return false
		}
		last[e.Id] = e.What
	}
	for id, what := range last {
		if isThere(b, id) == (what == api.Gone) {
			return false
		}
	}
	return true
}

// isThere tells whether there is an object of an id.
func isThere(b api.Box, id string) bool {
	return slices.ContainsFunc(b.Objects, func(o api.Object) bool { return o.Id == id })
}

// findOf is what Find ought to tell.
func findOf(b api.Box, id string) (api.Value, bool) {
	for _, o := range b.Objects {
		if o.Id == id {
			return o.Val, true
		}
	}
	return api.Value{}, false
}

// changedOf is a box in which another thing became of an id: its object is taken
// away, and, but where it is gone, put behind all and sorted to its place.
func changedOf(b api.Box, id string, v api.Value, what int) api.Box {
	var rest []api.Object
	for _, o := range b.Objects {
		if o.Id != id {
			rest = append(rest, o)
		}
	}
	if what != api.Gone {
		rest = append(rest, api.Object{Id: id, Val: v})
	}
	sort.Slice(rest, func(i, j int) bool { return rest[i].Id < rest[j].Id })
	b.Objects = rest
	b.Seq++
	b.Trail = append(slices.Clone(b.Trail), entry(b.Seq, id, what))
	for len(b.Trail) > b.Keep {
		b.Floor = b.Trail[0].Seq
		b.Trail = b.Trail[1:]
	}
	return b
}

// putOf is what Put of a right box ought to tell; isSame tells whether the
// value is the same as that which is there.
func putOf(b api.Box, id string, v api.Value, isSame bool) (api.Box, api.Errno) {
	_, is := findOf(b, id)
	if is && isSame {
		return b, api.OK
	}
	for _, e := range b.Trail {
		if !is && e.Id == id {
			return api.Box{}, api.ErrGone
		}
	}
	if b.Seq == 1<<53-1 {
		return api.Box{}, api.ErrFull
	}
	if is {
		return changedOf(b, id, v, api.Changed), api.OK
	}
	return changedOf(b, id, v, api.Made), api.OK
}

// dropOf is what Drop of a right box ought to tell.
func dropOf(b api.Box, id string) (api.Box, api.Errno) {
	if _, is := findOf(b, id); !is {
		return api.Box{}, api.ErrNone
	}
	if b.Seq == 1<<53-1 {
		return api.Box{}, api.ErrFull
	}
	return changedOf(b, id, api.Value{}, api.Gone), api.OK
}

// checkRight holds Right against what is wanted.
func checkRight(t *testing.T, b api.Box, want bool) {
	t.Helper()
	if got := store.Right(b); got != want {
		t.Fatalf("Right(%s) = %t", show(b), got)
	}
}

// checkFind holds Find against what is wanted.
func checkFind(t *testing.T, b api.Box, id string, want api.Value, wantIs bool) {
	t.Helper()
	if got, is := store.Find(b, id); is != wantIs || !equal(got, want) {
		t.Fatalf("Find(%s, %q) = %s, %t; want %s, %t", show(b), id, show(got), is, show(want), wantIs)
	}
}

// checkIds holds Ids against what is wanted.
func checkIds(t *testing.T, b api.Box, want ...string) {
	t.Helper()
	if got := store.Ids(b); !slices.Equal(got, want) {
		t.Fatalf("Ids(%s) = %q; want %q", show(b), got, want)
	}
}

// checkPut holds Put against what is wanted, and answers what it answered.
func checkPut(t *testing.T, b api.Box, id string, v api.Value, want api.Box, wantErr api.Errno) api.Box {
	t.Helper()
	got, e := store.Put(b, id, v)
	if e != wantErr || !equalBoxes(got, want) {
		t.Fatalf("Put(%s, %q, %s) = %s, %d; want %s, %d", show(b), id, show(v), show(got), e, show(want), wantErr)
	}
	return got
}

// checkDrop holds Drop against what is wanted, and answers what it answered.
func checkDrop(t *testing.T, b api.Box, id string, want api.Box, wantErr api.Errno) api.Box {
	t.Helper()
	got, e := store.Drop(b, id)
	if e != wantErr || !equalBoxes(got, want) {
		t.Fatalf("Drop(%s, %q) = %s, %d; want %s, %d", show(b), id, show(got), e, show(want), wantErr)
	}
	return got
}

// P18.1: what a new box begins with, and what is taken for numbers beyond their
// ends.
func TestNew(t *testing.T) {
	for _, start := range numbers() {
		for _, keep := range keeps() {
			want := api.Box{Seq: start, Keep: keep}
			if start < 0 {
				want.Seq = 0
			}
			if start > 9007199254740991 {
				want.Seq = 9007199254740991
			}
			if keep < 0 {
				want.Keep = 0
			}
			if keep > 1000 {
				want.Keep = 1000
			}
			want.Floor = want.Seq
			b := store.New(start, keep)
			if !equalBoxes(b, want) || len(b.Objects) != 0 || len(b.Trail) != 0 {
				t.Errorf("New(%d, %d) = %s; want %s", start, keep, show(b), show(want))
			}
			checkRight(t, b, true)
			checkIds(t, b)
			checkFind(t, b, "", api.Value{}, false)
		}
	}
}

// P18.1: ids rise, each more than the one ahead, byte by byte.
func TestRightObjects(t *testing.T) {
	for _, x := range []struct {
		objects string
		want    bool
	}{
		{"", true}, {"=1", true}, {"a=1", true}, {"a=1 b=1", true}, {"=1 a=1", true}, {"a=1 aa=1 ab=1 b=1", true}, {"B=1 a=1", true}, {"10=1 9=1", true}, {"a=1 a-=1", true}, {"a~=1 aé=1", true}, {"a\x7f=1 a\x80=1 a\xff=1 b=1", true}, {"a=1 a\x00=1 a\x00\x00=1", true}, {"#=1 a=1 {=1", true},
		{"a=1 a=1", false}, {"a=1 a=2", false}, {"=1 =1", false}, {"b=1 a=1", false}, {"a=1 =1", false}, {"aa=1 a=1", false}, {"a=1 B=1", false}, {"9=1 10=1", false}, {"aé=1 a~=1", false}, {"a\x80=1 a\x7f=1", false}, {"a\x00=1 a=1", false},
		{"a=1 b=1 b=1 c=1", false}, {"a=1 c=1 b=1 d=1", false}, {"a=1 b=1 c=1 c=1", false}, {"a=1 b=1 d=1 c=1", false}, {"a=1 b=1 a=1", false}, {"b=1 a=1 c=1", false}, {"a=1 b=1 c=1 a=1 b=1 c=1", false},
	} {
		for _, floor := range []int64{0, 7, api.MaxSafe} {
			for _, keep := range []int{0, 1, api.MaxKeep} {
				checkRight(t, box(x.objects, floor, "", keep), x.want)
			}
		}
		checkRight(t, box(x.objects, 4, "+zz !zy !zz", 3), x.want)
	}
	// Whatever their values are.
	for _, v := range []api.Value{{}, {Kind: -3, N: 5}, {Kind: api.Int, N: math.MinInt64}, text("\xff"), list(list()), members(named("a", number(1)), named("a", number(2)))} {
		checkRight(t, api.Box{Objects: []api.Object{{Id: "a", Val: v}, {Id: "b", Val: v}}}, true)
	}
	// A fault at each place of many.
	var many api.Box
	for i := range 300 {
		many.Objects = append(many.Objects, object(fmt.Sprintf("%03d", i), 1))
	}
	checkRight(t, many, true)
	for i := range many.Objects[1:] {
		x := many
		x.Objects = slices.Clone(many.Objects)
		x.Objects[i+1].Id = x.Objects[i].Id
		checkRight(t, x, false)
		x.Objects[i], x.Objects[i+1] = many.Objects[i+1], many.Objects[i]
		checkRight(t, x, false)
	}
}

// P18.1: the trail is right above Floor up to Seq.
func TestRightTrail(t *testing.T) {
	right := box("a=1 c=3", 5, "+a *c !b *a", 9)
	checkRight(t, right, true)
	for _, by := range []int64{-5, -2, -1, 1, 2, 5} {
		b := right
		b.Seq += by
		checkRight(t, b, false)
		b.Floor += by
		checkRight(t, b, false)
		b.Seq = right.Seq
		checkRight(t, b, false)
		for i := range right.Trail {
			b = right
			b.Trail = slices.Clone(right.Trail)
			b.Trail[i].Seq += by
			checkRight(t, b, false)
		}
	}
	for _, what := range []int{math.MinInt, -1, 0, 4, 257, math.MaxInt} {
		for i := range right.Trail {
			b := right
			b.Trail = slices.Clone(right.Trail)
			b.Trail[i].What = what
			checkRight(t, b, false)
		}
	}
	for _, trail := range []string{"+a +a", "*a +a", "!a +a", "!a *a", "+a !a *a", "+a *b +a"} {
		checkRight(t, box("a=1 b=1", 5, trail, 9), false)
	}
	for _, trail := range []string{"!b !b", "+b !b !b", "*b +b !b"} {
		checkRight(t, box("a=1", 5, trail, 9), false)
	}
	// Floor and Seq at the ends of what they may be.
	for _, trail := range []string{"", "+a", "*a !b"} {
		n := int64(len(strings.Fields(trail)))
		checkRight(t, box("a=1", 0, trail, 9), true)
		checkRight(t, box("a=1", -1, trail, 9), false)
		checkRight(t, box("a=1", math.MinInt64, trail, 9), false)
		checkRight(t, box("a=1", api.MaxSafe-n, trail, 9), true)
		checkRight(t, box("a=1", api.MaxSafe-n+1, trail, 9), false)
		checkRight(t, box("a=1", math.MaxInt64, trail, 9), false)
	}
}

// P18.1: Keep is from 0 to MaxKeep, and there are at most Keep entries.
func TestRightKeep(t *testing.T) {
	for _, keep := range keeps() {
		checkRight(t, box("", 3, "", keep), 0 <= keep && keep <= 1000)
		checkRight(t, box("a=1", 3, "+a", keep), 1 <= keep && keep <= 1000)
		checkRight(t, box("a=1", 3, "+a *a", keep), 2 <= keep && keep <= 1000)
	}
	for n := range 12 {
		for keep := range 14 {
			checkRight(t, box("a=1", 3, strings.Repeat(" *a", n), keep), n <= keep)
		}
	}
	all := strings.Repeat(" *a", 1000)
	checkRight(t, box("a=1", 3, all, 1000), true)
	checkRight(t, box("a=1", 3, all, 999), false)
	checkRight(t, box("a=1", 3, all, 1001), false)
	checkRight(t, box("a=1", 3, all+" *a", 1000), false)
	checkRight(t, box("a=1", 3, all+" *a", 1001), false)
}

// P18.1: of an id of which there are entries, the last one is no Gone just if
// there is an object of it.
func TestRightBoth(t *testing.T) {
	for _, trail := range []string{"+a", "*a", "+a *a", "*a *a", "+a *a *a"} {
		checkRight(t, box("a=1", 2, trail, 9), true)
		checkRight(t, box("", 2, trail, 9), false)
		checkRight(t, box("b=1", 2, trail, 9), false)
		checkRight(t, box("aa=1", 2, trail, 9), false)
		checkRight(t, box("=1", 2, trail, 9), false)
		checkRight(t, box("=1 a=1 b=1", 2, trail, 9), true)
	}
	for _, trail := range []string{"!a", "+a !a", "*a !a", "+a *a !a"} {
		checkRight(t, box("a=1", 2, trail, 9), false)
		checkRight(t, box("", 2, trail, 9), true)
		checkRight(t, box("b=1", 2, trail, 9), true)
		checkRight(t, box("=1 b=1", 2, trail, 9), true)
		checkRight(t, box("=1 a=1 b=1", 2, trail, 9), false)
	}
	// One of several, ahead, between and behind.
	checkRight(t, box("a=1 b=1 c=1", 2, "+c *b +a", 9), true)
	for _, x := range []string{"a=1 b=1", "a=1 c=1", "b=1 c=1", "b=1", ""} {
		checkRight(t, box(x, 2, "+c *b +a", 9), false)
	}
	checkRight(t, box("d=1", 2, "+c *b +a !b !a !c", 9), true)
	for _, x := range []string{"a=1 d=1", "b=1 d=1", "c=1 d=1"} {
		checkRight(t, box(x, 2, "+c *b +a !b !a !c", 9), false)
	}
	// The empty id is one as others.
	checkRight(t, box("=1", 2, "+ *", 9), true)
	checkRight(t, box("", 2, "+ *", 9), false)
	checkRight(t, box("=1", 2, "+ !", 9), false)
	checkRight(t, box("", 2, "+ !", 9), true)
	// Objects without entries.
	checkRight(t, box("a=1 b=1 c=1", 2, "", 9), true)
	checkRight(t, box("a=1 b=1 c=1", 2, "*b", 9), true)
	checkRight(t, box("a=1 b=1 c=1", 2, "!ab !d", 9), true)
}

// eachList calls f with all lists of at most so many of some things.
func eachList[T any](of []T, most int, f func([]T)) {
	var l []T
	var grow func()
	grow = func() {
		f(l)
		if len(l) == most {
			return
		}
		for _, x := range of {
			l = append(l, x)
			grow()
			l = l[:len(l)-1]
		}
	}
	grow()
}

// eachShort calls f with all boxes of at most two objects and three entries of
// some ids.
func eachShort(f func(api.Box)) {
	var lists [][]api.Object
	some := objects("=1 a=1 aa=1 b=1")
	eachList(some, 2, func(l []api.Object) { lists = append(lists, slices.Clone(l)) })
	eachList(behind(0, "+a *a !a +aa *aa !aa + * !"), 3, func(l []api.Entry) {
		trail := slices.Clone(l)
		for i := range trail {
			trail[i].Seq = int64(i) + 4
		}
		for _, objects := range lists {
			for keep := len(l); keep <= 3; keep++ {
				f(api.Box{Objects: objects, Trail: trail, Seq: 3 + int64(len(l)), Floor: 3, Keep: keep})
			}
		}
	})
}

// P18.1 to P18.4: all short boxes, and all that may be done with the right ones.
func TestShort(t *testing.T) {
	right := 0
	eachShort(func(b api.Box) {
		is := rightOf(b)
		checkRight(t, b, is)
		for _, id := range []string{"", "a", "a\x00", "aa", "b", "c"} {
			v, there := findOf(b, id)
			checkFind(t, b, id, v, there)
			if !is {
				continue
			}
			right++
			for n := range int64(2) {
				want, e := putOf(b, id, number(n), n == 1)
				x := checkPut(t, b, id, number(n), want, e)
				checkRight(t, x, e == api.OK || rightOf(api.Box{}))
			}
			want, e := dropOf(b, id)
			checkRight(t, checkDrop(t, b, id, want, e), true)
		}
	})
	if right < 5000 {
		t.Errorf("%d right boxes", right)
	}
}

// P18.1: Find and Ids of right boxes, of ids that are there, ahead of all,
// between and behind all.
func TestFind(t *testing.T) {
	b := box("=0 B=1 a=2 aa=3 c=4 é=5", 9, "*c !d", 9)
	checkRight(t, b, true)
	checkIds(t, b, "", "B", "a", "aa", "c", "é")
	for i, id := range []string{"", "B", "a", "aa", "c", "é"} {
		checkFind(t, b, id, number(int64(i)), true)
	}
	for _, id := range []string{"\x00", "A", "BB", "a\x00", "aaa", "ab", "b", "d", "è", "ê", "\xff", " ", "C", "a "} {
		checkFind(t, b, id, api.Value{}, false)
	}
	b.Objects = b.Objects[1:]
	checkFind(t, b, "", api.Value{}, false)
	checkIds(t, b, "B", "a", "aa", "c", "é")
	for _, none := range []api.Box{{}, {Objects: []api.Object{}}, box("", 3, "+a *b", 9)} {
		checkIds(t, none)
		checkFind(t, none, "", api.Value{}, false)
		checkFind(t, none, "a", api.Value{}, false)
	}
	// Values of all kinds.
	for _, v := range []api.Value{{}, {Kind: api.Null}, {Kind: api.Bool, N: 1}, text("x"), list(number(1), list(text("y"))), members(named("b", list()), named("a", members(named("", number(3)))), named("b", number(2)))} {
		x := api.Box{Objects: []api.Object{object("a", 1), {Id: "b", Val: v}, object("c", 3)}}
		checkFind(t, x, "b", v, true)
	}
}

// P18.1: Find and Ids of boxes that aren't right: the first object of an id, and
// the ids as they stand.
func TestFindNotRight(t *testing.T) {
	b := box("b=1 a=2 c=3 a=4 b=5 =6 b=7 =8", -3, "!a *zz +b", -9)
	b.Seq = math.MaxInt64
	checkRight(t, b, false)
	checkIds(t, b, "b", "a", "c", "a", "b", "", "b", "")
	checkFind(t, b, "a", number(2), true)
	checkFind(t, b, "b", number(1), true)
	checkFind(t, b, "c", number(3), true)
	checkFind(t, b, "", number(6), true)
	checkFind(t, b, "zz", api.Value{}, false)
	checkFind(t, b, "aa", api.Value{}, false)
	for n := 1; n < 40; n++ {
		// All of one id; the same ahead of and behind others; ids that fall.
		var twice, falling api.Box
		for i := range int64(n) {
			twice.Objects = append(twice.Objects, object("b", i))
			falling.Objects = append(falling.Objects, object(string(rune(200-i)), i))
		}
		checkFind(t, twice, "b", number(0), true)
		checkFind(t, twice, "a", api.Value{}, false)
		twice.Objects = slices.Concat(objects("=50 a=51"), twice.Objects, objects("c=52 a=53"))
		checkFind(t, twice, "b", number(0), true)
		checkFind(t, twice, "a", number(51), true)
		checkFind(t, twice, "c", number(52), true)
		for i := range int64(n) {
			checkFind(t, falling, string(rune(200-i)), number(i), true)
		}
		checkFind(t, falling, string(rune(201)), api.Value{}, false)
	}
	r := rand.New(rand.NewSource(181))
	for range 5000 {
		var x api.Box
		var ids []string
		for i := range r.Intn(12) {
			ids = append(ids, string("abcdef"[r.Intn(6)]))
			x.Objects = append(x.Objects, object(ids[i], int64(i)))
		}
		checkIds(t, x, ids...)
		for _, id := range []string{"a", "b", "c", "d", "e", "f", ""} {
			v, is := findOf(x, id)
			checkFind(t, x, id, v, is)
		}
	}
}

// P18.2: a new object ahead of all, between and behind all.
func TestPutNew(t *testing.T) {
	checkPut(t, store.New(5, 9), "a", number(1), box("a=1", 5, "+a", 9), api.OK)
	checkPut(t, store.New(0, 9), "", text("x"), api.Box{Objects: []api.Object{{Val: text("x")}}, Trail: behind(0, "+"), Seq: 1, Keep: 9}, api.OK)
	checkPut(t, store.New(0, 9), "a", api.Value{}, api.Box{Objects: []api.Object{{Id: "a"}}, Trail: behind(0, "+a"), Seq: 1, Keep: 9}, api.OK)
	b := box("B=1 a=2 aa=3 c=4", 5, "*c !d", 9)
	for id, want := range map[string]string{
		"": "=7 B=1 a=2 aa=3 c=4", "A": "A=7 B=1 a=2 aa=3 c=4", "Ba": "B=1 Ba=7 a=2 aa=3 c=4", "a-": "B=1 a=2 a-=7 aa=3 c=4", "aaa": "B=1 a=2 aa=3 aaa=7 c=4", "b": "B=1 a=2 aa=3 b=7 c=4", "ca": "B=1 a=2 aa=3 c=4 ca=7", "dd": "B=1 a=2 aa=3 c=4 dd=7", "\xff": "B=1 a=2 aa=3 c=4 \xff=7",
	} {
		checkRight(t, checkPut(t, b, id, number(7), box(want, 5, "*c !d +"+id, 9), api.OK), true)
	}
	// The value of another object doesn't count.
	checkPut(t, b, "b", number(2), box("B=1 a=2 aa=3 b=2 c=4", 5, "*c !d +b", 9), api.OK)
}

// P18.2: the value of an object that is there is the same: nothing changes, nor
// do the members that stand in another order.
func TestPutSame(t *testing.T) {
	b := box("a=1 b=2 c=3", 5, "*c !d", 9)
	for i, id := range []string{"a", "b", "c"} {
		checkPut(t, b, id, number(int64(i)+1), b, api.OK)
	}
	ab := members(named("a", number(1)), named("b", list(number(1), members(named("x", text("y")), named("z", text(""))))))
	ba := members(named("b", list(number(1), members(named("z", text("")), named("x", text("y"))))), named("a", number(1)))
	for _, x := range []struct{ is, v api.Value }{
		{api.Value{}, api.Value{}}, {api.Value{Kind: api.Null}, api.Value{Kind: api.Null}}, {list(), api.Value{Kind: api.List}}, {members(), api.Value{Kind: api.Map, M: []api.Member{}}}, {ab, ab}, {ab, ba}, {ba, ab}, {text("x"), text("x")}, {number(math.MinInt64), number(math.MinInt64)},
	} {
		b.Objects[1].Val = x.is
		checkPut(t, b, "b", x.v, b, api.OK)
	}
	// Of a name that stands twice the first member counts, on the side of what
	// is put in.
	first := members(named("a", number(1)), named("a", number(1)))
	second := members(named("a", number(1)), named("b", number(2)))
	b.Objects[1].Val = first
	checkPut(t, b, "b", second, b, api.OK)
	for _, keep := range []int{0, 1} {
		checkPut(t, box("a=1", 5, "", keep), "a", number(1), box("a=1", 5, "", keep), api.OK)
	}
}

// P18.2: the value of an object that is there is another one.
func TestPutChanged(t *testing.T) {
	b := box("a=1 b=2 c=3", 5, "*c !d", 9)
	for id, want := range map[string]string{"a": "a=7 b=2 c=3", "b": "a=1 b=7 c=3", "c": "a=1 b=2 c=7"} {
		checkRight(t, checkPut(t, b, id, number(7), box(want, 5, "*c !d *"+id, 9), api.OK), true)
	}
	checkPut(t, b, "a", number(2), box("a=2 b=2 c=3", 5, "*c !d *a", 9), api.OK)
	twice := members(named("a", number(1)), named("a", number(2)))
	for _, x := range []struct{ is, v api.Value }{
		{number(1), number(2)}, {number(1), api.Value{Kind: api.Bool, N: 1}}, {number(0), api.Value{}}, {api.Value{}, number(0)}, {text("a"), text("A")}, {text(""), text("\x00")}, {list(), members()}, {list(number(1), number(2)), list(number(2), number(1))}, {list(number(1)), list(number(1), number(1))}, {members(named("a", number(1))), members(named("b", number(1)))}, {members(named("a", number(1))), members()}, {members(named("a", number(1))), members(named("a", number(1)), named("b", number(1)))}, {members(named("a", list(number(1)))), members(named("a", list(number(2))))},
		// A name that stands twice with unlike values.
		{twice, twice}, {members(named("a", number(1)), named("b", number(2))), members(named("a", number(1)), named("a", number(1)))},
	} {
		b.Objects[1].Val = x.is
		want := box("a=1 b=0 c=3", 5, "*c !d *b", 9)
		want.Objects[1].Val = x.v
		checkPut(t, b, "b", x.v, want, api.OK)
	}
	checkPut(t, box("a=1", 5, "", 9), "a", number(2), box("a=2", 5, "*a", 9), api.OK)
	checkPut(t, box("a=1", 5, "+a *a *a", 9), "a", number(2), box("a=2", 5, "+a *a *a *a", 9), api.OK)
}

// P18.2: an id that is gone, as long as the trail has an entry of it.
func TestPutGone(t *testing.T) {
	for _, trail := range []string{"!d", "+d !d", "!d *a *a *a", "*a *d !d *a", "*a *a *a !d"} {
		b := box("a=1 e=2", 5, trail, 9)
		checkRight(t, b, true)
		checkPut(t, b, "d", number(7), api.Box{}, api.ErrGone)
		checkPut(t, b, "d", api.Value{}, api.Box{}, api.ErrGone)
		checkPut(t, b, "dd", number(7), box("a=1 dd=7 e=2", 5, trail+" +dd", 9), api.OK)
		checkPut(t, b, "", number(7), box("=7 a=1 e=2", 5, trail+" +", 9), api.OK)
	}
	checkPut(t, box("a=1", 5, "! *a", 9), "", number(7), api.Box{}, api.ErrGone)
	// The Gone leaves the trail.
	b := checkPut(t, box("a=1", 5, "!d *a", 2), "a", number(2), box("a=2", 6, "*a *a", 2), api.OK)
	checkRight(t, checkPut(t, b, "d", number(3), box("a=2 d=3", 7, "*a +d", 2), api.OK), true)
	// What leaves it with the entry that would come is still there.
	checkPut(t, box("a=1", 5, "!d *a", 2), "d", number(2), api.Box{}, api.ErrGone)
	checkPut(t, box("a=1", 5, "*a !d", 2), "d", number(2), api.Box{}, api.ErrGone)
}

// P18.2: at the greatest number nothing is made or changed, and what is the
// same or gone is told as it is elsewhere.
func TestPutFull(t *testing.T) {
	for _, trail := range []string{"*a !d", "!d *a", "!d"} {
		n := int64(len(strings.Fields(trail)))
		b := box("a=1 c=2", api.MaxSafe-n, trail, 2)
		checkRight(t, b, true)
		checkPut(t, b, "a", number(1), b, api.OK)
		checkPut(t, b, "a", number(2), api.Box{}, api.ErrFull)
		checkPut(t, b, "c", number(2), b, api.OK)
		checkPut(t, b, "c", number(1), api.Box{}, api.ErrFull)
		checkPut(t, b, "", number(1), api.Box{}, api.ErrFull)
		checkPut(t, b, "b", number(1), api.Box{}, api.ErrFull)
		checkPut(t, b, "e", number(1), api.Box{}, api.ErrFull)
		checkPut(t, b, "d", number(1), api.Box{}, api.ErrGone)
		// One number ahead.
		b = box("a=1 c=2", api.MaxSafe-n-1, trail, 9)
		x := checkPut(t, b, "a", number(2), box("a=2 c=2", api.MaxSafe-n-1, trail+" *a", 9), api.OK)
		checkRight(t, x, true)
		checkPut(t, x, "a", number(3), api.Box{}, api.ErrFull)
		x = checkPut(t, b, "b", number(2), box("a=1 b=2 c=2", api.MaxSafe-n-1, trail+" +b", 9), api.OK)
		checkPut(t, x, "b", number(2), x, api.OK)
		checkPut(t, b, "d", number(1), api.Box{}, api.ErrGone)
	}
	for _, keep := range keeps() {
		checkPut(t, store.New(api.MaxSafe, keep), "a", number(1), api.Box{}, api.ErrFull)
	}
}

// P18.2 and P18.3: with Keep 0 and 1, and where entries go.
func TestKeep(t *testing.T) {
	b := store.New(5, 0)
	b = checkPut(t, b, "b", number(1), box("b=1", 6, "", 0), api.OK)
	b = checkPut(t, b, "a", number(1), box("a=1 b=1", 7, "", 0), api.OK)
	b = checkPut(t, b, "a", number(1), box("a=1 b=1", 7, "", 0), api.OK)
	b = checkPut(t, b, "a", number(2), box("a=2 b=1", 8, "", 0), api.OK)
	b = checkDrop(t, b, "a", box("b=1", 9, "", 0), api.OK)
	b = checkDrop(t, b, "a", api.Box{}, api.ErrNone)
	b = box("b=1", 9, "", 0)
	b = checkPut(t, b, "a", number(3), box("a=3 b=1", 10, "", 0), api.OK)
	checkRight(t, b, true)

	b = store.New(5, 1)
	b = checkPut(t, b, "b", number(1), box("b=1", 5, "+b", 1), api.OK)
	b = checkPut(t, b, "a", number(1), box("a=1 b=1", 6, "+a", 1), api.OK)
	b = checkPut(t, b, "a", number(1), box("a=1 b=1", 6, "+a", 1), api.OK)
	b = checkPut(t, b, "a", number(2), box("a=2 b=1", 7, "*a", 1), api.OK)
	b = checkDrop(t, b, "a", box("b=1", 8, "!a", 1), api.OK)
	checkPut(t, b, "a", number(3), api.Box{}, api.ErrGone)
	b = checkDrop(t, b, "b", box("", 9, "!b", 1), api.OK)
	checkPut(t, b, "b", number(3), api.Box{}, api.ErrGone)
	b = checkPut(t, b, "a", number(3), box("a=3", 10, "+a", 1), api.OK)
	checkRight(t, b, true)

	// Fewer entries than Keep, as many.
	b = box("a=1", 5, "*a *a", 4)
	b = checkPut(t, b, "b", number(2), box("a=1 b=2", 5, "*a *a +b", 4), api.OK)
	b = checkPut(t, b, "b", number(3), box("a=1 b=3", 5, "*a *a +b *b", 4), api.OK)
	b = checkDrop(t, b, "b", box("a=1", 6, "*a +b *b !b", 4), api.OK)
	b = checkDrop(t, b, "a", box("", 7, "+b *b !b !a", 4), api.OK)
	b = checkPut(t, b, "c", number(1), box("c=1", 8, "*b !b !a +c", 4), api.OK)
	checkRight(t, b, true)
	// At MaxKeep.
	b = box("a=1", 5, strings.Repeat(" *a", 999), 1000)
	b = checkPut(t, b, "b", number(2), box("a=1 b=2", 5, strings.Repeat(" *a", 999)+" +b", 1000), api.OK)
	b = checkDrop(t, b, "a", box("b=2", 6, strings.Repeat(" *a", 998)+" +b !a", 1000), api.OK)
	checkRight(t, b, true)
}

// P18.3: an object that is there, at each place; one that isn't; one that is
// gone.
func TestDrop(t *testing.T) {
	b := box("=1 a=2 aa=3 c=4", 5, "*c !d", 9)
	for id, want := range map[string]string{"": "a=2 aa=3 c=4", "a": "=1 aa=3 c=4", "aa": "=1 a=2 c=4", "c": "=1 a=2 aa=3"} {
		x := checkDrop(t, b, id, box(want, 5, "*c !d !"+id, 9), api.OK)
		checkRight(t, x, true)
		checkDrop(t, x, id, api.Box{}, api.ErrNone)
		checkPut(t, x, id, number(1), api.Box{}, api.ErrGone)
	}
	for _, id := range []string{"\x00", "A", "a\x00", "b", "cc", "d", "\xff"} {
		checkDrop(t, b, id, api.Box{}, api.ErrNone)
	}
	for _, none := range []api.Box{{}, store.New(5, 9), box("", 5, "!a", 9)} {
		checkDrop(t, none, "a", api.Box{}, api.ErrNone)
		checkDrop(t, none, "", api.Box{}, api.ErrNone)
	}
	checkDrop(t, box("a=1", 5, "", 9), "a", box("", 5, "!a", 9), api.OK)
	checkDrop(t, box("a=1", 5, "+a *a", 9), "a", box("", 5, "+a *a !a", 9), api.OK)
	x := api.Box{Objects: []api.Object{{Id: "a"}}, Keep: 1}
	checkDrop(t, x, "a", box("", 0, "!a", 1), api.OK)
}

// P18.3: at the greatest number nothing is taken away.
func TestDropFull(t *testing.T) {
	b := box("a=1 c=2", api.MaxSafe-2, "*a !d", 2)
	checkRight(t, b, true)
	for _, id := range []string{"a", "c"} {
		checkDrop(t, b, id, api.Box{}, api.ErrFull)
	}
	for _, id := range []string{"", "b", "d", "e"} {
		checkDrop(t, b, id, api.Box{}, api.ErrNone)
	}
	checkDrop(t, store.New(math.MaxInt64, 3), "a", api.Box{}, api.ErrNone)
	// One number ahead.
	b = box("a=1 c=2", api.MaxSafe-3, "*a !d", 2)
	x := checkDrop(t, b, "a", box("c=2", api.MaxSafe-2, "!d !a", 2), api.OK)
	checkRight(t, x, true)
	checkDrop(t, x, "a", api.Box{}, api.ErrNone)
	checkDrop(t, x, "c", api.Box{}, api.ErrFull)
}

// kindOf is a value among some, and which of them are the same.
type kindOf struct {
	v   api.Value
	its int
}

// some are values, the same ones by their numbers.
func some() []kindOf {
	a, b := named("a", number(1)), named("b", list(text("x"), members()))
	return []kindOf{{number(1), 1}, {number(2), 2}, {text(""), 3}, {api.Value{}, 4}, {members(a, b), 5}, {members(b, a), 5}, {members(a), 6}, {members(b, a, named("c", number(0))), 7}, {members(named("c", number(0)), a, b), 7}, {list(members(a, b)), 8}, {list(members(b, a)), 8}, {list(), 9}}
}

// P18.4: right boxes stay right under many acts; Seq goes on just if some
// object's value, or what objects there are, changes.
func TestActs(t *testing.T) {
	r := rand.New(rand.NewSource(184))
	values := some()
	for _, start := range []int64{0, 9, api.MaxSafe - 100} {
		for _, keep := range []int{-1, 0, 1, 2, 5, 20, 100, api.MaxKeep} {
			b := store.New(start, keep)
			its := map[string]int{}
			for i := range 1500 {
				id := strconv.Itoa(r.Intn(12) + i/60)
				x := values[r.Intn(len(values))]
				want, e := putOf(b, id, x.v, its[id] == x.its)
				var got api.Box
				if r.Intn(3) > 0 {
					got = checkPut(t, b, id, x.v, want, e)
				} else {
					x.its = 0
					want, e = dropOf(b, id)
					got = checkDrop(t, b, id, want, e)
				}
				if e != api.OK {
					continue
				}
				checkRight(t, got, true)
				if is := its[id] != x.its; is != (got.Seq == b.Seq+1) || !is && got.Seq != b.Seq {
					t.Fatalf("%s, another one: %t: Seq %d behind %d", id, is, got.Seq, b.Seq)
				}
				its[id] = x.its
				b = got
				checkAll(t, b, values, its)
			}
			if start > 9 && b.Seq != api.MaxSafe {
				t.Errorf("Seq %d", b.Seq)
			}
		}
	}
}

// checkAll holds what there is against values by their numbers.
func checkAll(t *testing.T, b api.Box, values []kindOf, its map[string]int) {
	t.Helper()
	var ids []string
	for id, n := range its {
		v, is := store.Find(b, id)
		isIts := func(x kindOf) bool { return x.its == n && equal(x.v, v) }
		if is != (n != 0) || is && !slices.ContainsFunc(values, isIts) {
			t.Fatalf("Find(%s, %q) = %s, %t; want one of %d", show(b), id, show(v), is, n)
		}
		if is {
			ids = append(ids, id)
		}
	}
	sort.Strings(ids)
	checkIds(t, b, ids...)
}

// P18.4: boxes with ids of many letters, in which the objects come in all
// orders.
func TestOrders(t *testing.T) {
	r := rand.New(rand.NewSource(182))
	for n := range 60 {
		b := store.New(0, 10)
		ids := make([]string, n)
		for i := range ids {
			ids[i] = strings.Repeat(string(rune('a'+i%7)), i/7+1) + "\xfe"
		}
		for _, i := range r.Perm(n) {
			x, e := store.Put(b, ids[i], number(int64(i)))
			if e != api.OK || !store.Right(x) || len(x.Objects) != len(b.Objects)+1 {
				t.Fatalf("Put(.., %q, ..) = %s, %d", ids[i], show(x), e)
			}
			b = x
		}
		for i, id := range ids {
			checkFind(t, b, id, number(int64(i)), true)
		}
		sort.Strings(ids)
		checkIds(t, b, ids...)
		for _, i := range r.Perm(n) {
			x, e := store.Drop(b, ids[i])
			if e != api.OK || !store.Right(x) || len(x.Objects) != len(b.Objects)-1 || isThere(x, ids[i]) {
				t.Fatalf("Drop(.., %q) = %s, %d", ids[i], show(x), e)
			}
			b = x
		}
		if len(b.Objects) != 0 || b.Seq != int64(2*n) {
			t.Fatalf("at the end: %s", show(b))
		}
	}
}

// P18.5 and P1: of boxes that aren't right, Put and Drop end; with an error
// they tell nothing else.
func TestNotRight(t *testing.T) {
	check := func(b api.Box) {
		for _, id := range []string{"", "a", "b", "c", "zz"} {
			for _, v := range []api.Value{{}, number(1), number(9), text("x")} {
				if x, e := store.Put(b, id, v); e != api.OK && !equalBoxes(x, api.Box{}) {
					t.Fatalf("Put(%s, %q, ..) = %s, %d", show(b), id, show(x), e)
				}
			}
			if x, e := store.Drop(b, id); e != api.OK && !equalBoxes(x, api.Box{}) {
				t.Fatalf("Drop(%s, %q) = %s, %d", show(b), id, show(x), e)
			}
			v, is := findOf(b, id)
			checkFind(t, b, id, v, is)
		}
		checkRight(t, b, rightOf(b))
	}
	for _, objects := range []string{"", "a=1 b=2", "b=1 a=2", "a=1 a=2 a=3", "c=1 b=2 a=3 =4", "a=1 c=1 b=1 c=2"} {
		for _, trail := range []string{"", "*a", "!a +a", "+zz !b !b"} {
			for _, seq := range numbers() {
				for _, floor := range numbers() {
					b := box(objects, 0, trail, 3)
					b.Seq, b.Floor = seq, floor
					check(b)
				}
				for _, keep := range keeps() {
					b := box(objects, 3, trail, keep)
					check(b)
					b.Seq = seq
					check(b)
				}
			}
		}
	}
	r := rand.New(rand.NewSource(185))
	for range 3000 {
		b := api.Box{Seq: int64(r.Intn(9)), Floor: int64(r.Intn(9)), Keep: r.Intn(9) - 3}
		for range r.Intn(9) {
			b.Objects = append(b.Objects, object(string("abcd"[r.Intn(4)]), int64(r.Intn(3))))
		}
		for range r.Intn(9) {
			b.Trail = append(b.Trail, entry(int64(r.Intn(9)), string("abcd"[r.Intn(4)]), r.Intn(5)))
		}
		check(b)
	}
}

// roomy is a list of new memory with room to spare, in which something lies.
func roomy[T any](l []T, room int, spare T) []T {
	return slices.Concat(l, slices.Repeat([]T{spare}, room))[:len(l)]
}

// filled is a box of new memory, whose lists have room to spare.
func filled(b api.Box, room int) api.Box {
	b.Objects = roomy(b.Objects, room, object("spare", 77))
	for i, o := range b.Objects {
		b.Objects[i].Val = filledValue(o.Val, room)
	}
	b.Trail = roomy(b.Trail, room, entry(77, "spare", api.Changed))
	return b
}

// filledValue is filled of values.
func filledValue(v api.Value, room int) api.Value {
	v.L, v.M = roomy(v.L, room, text("spare")), roomy(v.M, room, named("spare", number(77)))
	for i, x := range v.L {
		v.L[i] = filledValue(x, room)
	}
	for i, m := range v.M {
		v.M[i].Val = filledValue(m.Val, room)
	}
	return v
}

// whole is a box of new memory that has what another has, its lists' room to
// spare among it.
func whole(b api.Box) api.Box {
	b.Objects, b.Trail = slices.Clone(b.Objects[:cap(b.Objects)]), slices.Clone(b.Trail[:cap(b.Trail)])
	for i, o := range b.Objects {
		b.Objects[i].Val = wholeValue(o.Val)
	}
	return b
}

// wholeValue is whole of values.
func wholeValue(v api.Value) api.Value {
	v.L, v.M = slices.Clone(v.L[:cap(v.L)]), slices.Clone(v.M[:cap(v.M)])
	for i, x := range v.L {
		v.L[i] = wholeValue(x)
	}
	for i, m := range v.M {
		v.M[i].Val = wholeValue(m.Val)
	}
	return v
}

// scribble writes over all of a list, its spare room too.
func scribble[T any](l []T, over T) {
	l = l[:cap(l)]
	for i := range l {
		l[i] = over
	}
}

// spoil writes over a box's lists of objects and entries.
func spoil(b api.Box) {
	scribble(b.Objects, object("over", -7))
	scribble(b.Trail, entry(-7, "over", -1))
}

// spoilValue writes over all lists of a value.
func spoilValue(v api.Value) {
	for _, x := range v.L {
		spoilValue(x)
	}
	for _, m := range v.M {
		spoilValue(m.Val)
	}
	scribble(v.L, text("over"))
	scribble(v.M, named("over", text("over")))
}

// rich is a box whose values have lists.
func rich() api.Box {
	b := box("a=1 b=2 c=3 d=4", 5, "+c *b !e *a", 6)
	b.Objects[1].Val = members(named("x", list(number(1), text("y"))), named("z", members(named("", list(list())))))
	b.Objects[2].Val = list(members(named("x", number(1))), list(text("y"), text("z")))
	return b
}

// asked is a way to ask a call, and what it tells.
type asked struct {
	call func(api.Box) (api.Box, api.Errno)
	want api.Box
	e    api.Errno
}

// ways are ways to ask Put and Drop of a right box, with values of new memory.
func ways(b api.Box) []asked {
	var l []asked
	put := func(id string, v api.Value, isSame bool) {
		want, e := putOf(b, id, v, isSame)
		l = append(l, asked{func(b api.Box) (api.Box, api.Errno) { return store.Put(b, id, filledValue(v, 2)) }, want, e})
	}
	for _, o := range b.Objects {
		put(o.Id, o.Val, true)
	}
	for _, id := range []string{"", "a", "aa", "b", "c", "d", "e", "f"} {
		put(id, members(named("n", list(number(5)))), false)
		want, e := dropOf(b, id)
		l = append(l, asked{func(b api.Box) (api.Box, api.Errno) { return store.Drop(b, id) }, want, e})
	}
	return l
}

// P18.5: what is handed in stays, its spare room too; what is answered may be
// written over; asked again, the calls tell the same.
func TestMemory(t *testing.T) {
	for _, sample := range []api.Box{store.New(0, 3), box("", 4, "!b", 2), box("a=1", 0, "", 0), box("a=1 b=2 c=3", 3, "*a", 1), rich()} {
		checkRight(t, sample, true)
		for _, room := range []int{0, 1, 5} {
			b := filled(sample, room)
			before := whole(b)
			for i, x := range ways(sample) {
				for range 2 {
					got, e := x.call(b)
					if e != x.e || !equalBoxes(got, x.want) {
						t.Fatalf("way %d of %s: %s, %d", i, show(sample), show(got), e)
					}
					again, _ := x.call(got)
					if overlap(got.Objects, b.Objects) || overlap(got.Trail, b.Trail) || overlap(again.Objects, got.Objects) || overlap(again.Trail, got.Trail) {
						t.Fatalf("way %d of %s shares a list", i, show(sample))
					}
					spoil(again)
					if !equalBoxes(got, x.want) {
						t.Fatalf("way %d of %s: changed with what came of it", i, show(sample))
					}
					spoil(got)
					if !equalBoxes(whole(b), before) {
						t.Fatalf("way %d of %s changed what was handed in", i, show(sample))
					}
				}
				// What is written over behind an answer isn't seen in it.
				handed := filled(sample, room)
				got, _ := x.call(handed)
				spoil(handed)
				if !equalBoxes(got, x.want) {
					t.Fatalf("way %d of %s: changed by what was handed in", i, show(sample))
				}
			}
			checkReading(t, b, before)
		}
	}
}

// checkReading asks what changes nothing of a right box, again and again, and
// writes over what is answered.
func checkReading(t *testing.T, b, before api.Box) {
	t.Helper()
	for range 2 {
		checkRight(t, b, true)
		ids := store.Ids(b)
		for i, o := range b.Objects {
			if i >= len(ids) || ids[i] != o.Id {
				t.Fatalf("Ids(%s) = %q", show(b), ids)
			}
			v, is := store.Find(b, o.Id)
			if !is || !equal(v, o.Val) {
				t.Fatalf("Find(%s, %q) = %s, %t", show(b), o.Id, show(v), is)
			}
			spoilValue(v)
		}
		scribble(ids, "over")
		if !equalBoxes(whole(b), before) {
			t.Fatalf("%s: what was handed in has changed", show(b))
		}
	}
}

// P18.5 (and rule 5): a value that is put in is not kept: written over, it leaves
// the box as it is; nor is it changed.
func TestPutIn(t *testing.T) {
	for _, b := range []api.Box{store.New(0, 3), box("a=1", 0, "+a", 3), rich()} {
		for _, id := range []string{"", "a", "b", "d"} {
			for _, o := range rich().Objects {
				want := wholeValue(o.Val)
				v := filledValue(o.Val, 2)
				before := wholeValue(v)
				x, e := store.Put(b, id, v)
				if e != api.OK || !equal(wholeValue(v), before) {
					t.Fatalf("Put(%s, %q, %s): %d, the value is %s", show(b), id, show(before), e, show(wholeValue(v)))
				}
				checkFind(t, x, id, want, true)
				spoilValue(v)
				checkFind(t, x, id, want, true)
				checkRight(t, x, true)
			}
		}
	}
}

// overlap tells whether two lists, with their spare room, lie in one another.
func overlap[T any](a, b []T) bool {
	from := func(l []T) uintptr { return uintptr(unsafe.Pointer(unsafe.SliceData(l))) }
	var one T
	to := func(l []T) uintptr { return from(l) + uintptr(cap(l))*unsafe.Sizeof(one) }
	return cap(a) > 0 && cap(b) > 0 && from(a) < to(b) && from(b) < to(a)
}

// P1: all calls end, and none panics, at boxes of many objects and entries, and
// at values that are deep.
func TestLong(t *testing.T) {
	const n = 1 << 18
	b := api.Box{Seq: 7 + n, Floor: 7, Keep: api.MaxKeep}
	for i := range int64(n) {
		b.Objects = append(b.Objects, object(fmt.Sprintf("%06d", i), i))
		b.Trail = append(b.Trail, entry(8+i, "000005", api.Changed))
	}
	checkRight(t, b, false)
	checkFind(t, b, fmt.Sprintf("%06d", n-1), number(n-1), true)
	checkFind(t, b, "x", api.Value{}, false)
	if ids := store.Ids(b); len(ids) != n || ids[n-1] != fmt.Sprintf("%06d", n-1) {
		t.Errorf("%d ids", len(ids))
	}
	checkDrop(t, b, "x", api.Box{}, api.ErrNone)
	b.Trail, b.Floor = nil, b.Seq
	checkRight(t, b, true)
	checkPut(t, b, "000007", number(7), b, api.OK)
	if x, e := store.Put(b, "0000070", number(7)); e != api.OK || len(x.Objects) != n+1 || x.Objects[8].Id != "0000070" || x.Objects[n].Id != b.Objects[n-1].Id || !store.Right(x) {
		t.Errorf("Put of a new one: %s, %d", show(x), e)
	}
	if x, e := store.Drop(b, "000007"); e != api.OK || len(x.Objects) != n-1 || x.Objects[7].Id != "000008" || !store.Right(x) {
		t.Errorf("Drop: %s, %d", show(x), e)
	}
	deep, other := number(1), number(2)
	for range 1<<16 - 1 {
		deep, other = list(deep), members(named("a", other))
	}
	x, e := store.Put(store.New(0, 9), "a", deep)
	for i, v := range []api.Value{deep, other, other, deep} {
		if x, e = store.Put(x, "a", v); e != api.OK {
			t.Fatalf("Put of deep values: %d", e)
		}
		if got, is := store.Find(x, "a"); !is || got.Kind != v.Kind || x.Seq != int64([]int{1, 2, 2, 3}[i]) {
			t.Errorf("deep value %d: %d, %t, Seq %d", i, got.Kind, is, x.Seq)
		}
	}
}

// The section 'Examples'.
func TestExamples(t *testing.T) {
	b := store.New(0, 2)
	b = checkPut(t, b, "a", number(1), box("a=1", 0, "+a", 2), api.OK)
	b = checkPut(t, b, "b", number(1), box("a=1 b=1", 0, "+a +b", 2), api.OK)
	b = checkPut(t, b, "a", number(1), b, api.OK)
	b = checkDrop(t, b, "a", box("b=1", 1, "+b !a", 2), api.OK)
	if b.Seq != 3 || b.Floor != 1 || len(b.Trail) != 2 || b.Trail[0].Seq != 2 || b.Trail[1].Seq != 3 {
		t.Errorf("at the end: %s", show(b))
	}
}
