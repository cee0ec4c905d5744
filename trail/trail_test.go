package trail_test

import (
	"fmt"
	"math"
	"math/rand"
	"slices"
	"strconv"
	"strings"
	"testing"
	"unsafe"

	"cardbox/api"
	"cardbox/trail"
)

// entries makes a trail out of a text: of each entry its Seq, a sign (+ Made,
// * Changed, ! Gone) and its id.
func entries(s string) []api.Entry {
	var l []api.Entry
	for _, x := range strings.Fields(s) {
		at := strings.IndexAny(x, "+*!")
		seq, err := strconv.ParseInt(x[:at], 10, 64)
		if err != nil {
			panic(err)
		}
		l = append(l, entry(seq, x[at+1:], strings.IndexByte("+*!", x[at])+api.Made))
	}
	return l
}

// behind makes a trail whose Seqs are those behind a number: of each entry a
// sign and an id.
func behind(seq int64, s string) []api.Entry {
	text := ""
	for i, x := range strings.Fields(s) {
		text += " " + strconv.FormatInt(seq+int64(i)+1, 10) + x
	}
	return entries(text)
}

// entry makes an entry.
func entry(seq int64, id string, what int) api.Entry {
	return api.Entry{Seq: seq, Id: id, What: what}
}

// past makes a Past.
func past(id string, was, is bool, last int64) trail.Past {
	return trail.Past{Id: id, Was: was, Is: is, Last: last}
}

// show is what a message shows of anything.
func show(v any) string {
	s := fmt.Sprintf("%q", fmt.Sprint(v))
	return s[:min(len(s), 300)]
}

// numbers are such as stand at ends, and some others.
func numbers() []int64 {
	return []int64{math.MinInt64, math.MinInt64 + 1, -api.MaxSafe - 1, -api.MaxSafe, -2, -1, 0, 1, 2, 3, 7, api.MaxSafe - 2, api.MaxSafe - 1, api.MaxSafe, api.MaxSafe + 1, api.MaxSafe + 2, math.MaxInt64 - 1, math.MaxInt64}
}

// whats are what may become of objects, and what isn't any of that.
func whats() []int {
	return []int{math.MinInt, -3, -2, -1, 0, api.Made, api.Changed, api.Gone, 4, 5, 257, 258, 259, math.MaxInt}
}

// rightOf is what Right ought to tell: each entry is held against all ahead of
// it.
func rightOf(l []api.Entry, floor, seq int64) bool {
	if floor < 0 || seq > api.MaxSafe || seq < floor || seq-floor != int64(len(l)) {
		return false
	}
	for i, e := range l {
		if e.Seq != floor+int64(i)+1 || !slices.Contains(mayComeOf(l[:i], e.Id), e.What) {
			return false
		}
	}
	return true
}

// mayComeOf tells what may become of an id behind a trail.
func mayComeOf(l []api.Entry, id string) []int {
	for i := len(l) - 1; i >= 0; i-- {
		if l[i].Id == id && l[i].What == api.Gone {
			return nil
		}
		if l[i].Id == id {
			return []int{api.Changed, api.Gone}
		}
	}
	return []int{api.Made, api.Changed, api.Gone}
}

// addOf is what Add ought to tell: one entry after the other goes.
func addOf(l []api.Entry, floor int64, keep int, e api.Entry) ([]api.Entry, int64) {
	l = append(slices.Clone(l), e)
	for len(l) > 0 && len(l) > keep {
		floor = l[0].Seq
		l = l[1:]
	}
	return l, floor
}

// sinceOf is what Since ought to tell: each entry above the number is asked
// whether it is its id's last one, and the least of those that are left is put
// next.
func sinceOf(l []api.Entry, seq int64) []trail.Past {
	var above []api.Entry
	for _, e := range l {
		if e.Seq > seq {
			above = append(above, e)
		}
	}
	var left, pasts []trail.Past
	for i, e := range above {
		isSame := func(x api.Entry) bool { return x.Id == e.Id }
		if slices.ContainsFunc(above[i+1:], isSame) {
			continue
		}
		first := above[slices.IndexFunc(above, isSame)]
		left = append(left, past(e.Id, first.What != api.Made, e.What != api.Gone, e.Seq))
	}
	for len(left) > 0 {
		least := 0
		for i, p := range left {
			if p.Last < left[least].Last {
				least = i
			}
		}
		pasts = append(pasts, left[least])
		left = slices.Delete(left, least, least+1)
	}
	return pasts
}

// checkRight holds Right against what is wanted.
func checkRight(t *testing.T, l []api.Entry, floor, seq int64, want bool) {
	t.Helper()
	if got := trail.Right(l, floor, seq); got != want {
		t.Fatalf("Right(%s, %d, %d) = %t", show(l), floor, seq, got)
	}
}

// checkAdd holds Add against what is wanted.
func checkAdd(t *testing.T, l []api.Entry, floor int64, keep int, e api.Entry, want []api.Entry, wantFloor int64) {
	t.Helper()
	if got, f := trail.Add(l, floor, keep, e); f != wantFloor || !slices.Equal(got, want) {
		t.Fatalf("Add(%s, %d, %d, %v) = %s, %d; want %s, %d", show(l), floor, keep, e, show(got), f, show(want), wantFloor)
	}
}

// checkSince holds Since against what is wanted.
func checkSince(t *testing.T, l []api.Entry, seq int64, want ...trail.Past) {
	t.Helper()
	if got := trail.Since(l, seq); !slices.Equal(got, want) {
		t.Fatalf("Since(%s, %d) = %s; want %s", show(l), seq, show(got), show(want))
	}
}

// eachTrail calls f with all lists of at most so many of some entries.
func eachTrail(of []api.Entry, most int, f func([]api.Entry)) {
	var l []api.Entry
	var grow func()
	grow = func() {
		f(l)
		if len(l) == most {
			return
		}
		for _, e := range of {
			l = append(l, e)
			grow()
			l = l[:len(l)-1]
		}
	}
	grow()
}

// P17.1: the empty trail.
func TestRightEmpty(t *testing.T) {
	for _, floor := range numbers() {
		for _, seq := range numbers() {
			want := floor == seq && floor >= 0 && seq <= api.MaxSafe
			checkRight(t, nil, floor, seq, want)
			checkRight(t, []api.Entry{}, floor, seq, want)
		}
	}
	checkRight(t, nil, 0, 0, true)
	checkRight(t, nil, api.MaxSafe, api.MaxSafe, true)
	checkRight(t, nil, -1, -1, false)
	checkRight(t, nil, api.MaxSafe+1, api.MaxSafe+1, false)
	checkRight(t, nil, 3, 2, false)
	checkRight(t, nil, 2, 3, false)
	// A difference that wraps round to 0, to 1, or to the same again.
	checkRight(t, nil, math.MinInt64, math.MinInt64, false)
	checkRight(t, nil, math.MaxInt64, math.MaxInt64, false)
	checkRight(t, behind(math.MaxInt64-1, "+a"), math.MaxInt64-1, math.MaxInt64, false)
	checkRight(t, []api.Entry{entry(math.MinInt64, "a", api.Made)}, math.MaxInt64, math.MinInt64, false)
}

// P17.1: as many entries as seq less floor, and no others; floor 0 or more, seq
// at most MaxSafe.
func TestRightCount(t *testing.T) {
	const all = "+a +b *a !b *c *a !a +d *c"
	for _, floor := range []int64{0, 1, 2, 5, 1000, api.MaxSafe - 9} {
		l := behind(floor, all)
		for n := range len(l) + 1 {
			for _, less := range []int64{-2, -1, 0, 1, 2} {
				checkRight(t, l[:n], floor, floor+int64(n)+less, less == 0)
				checkRight(t, l[:n], floor+less, floor+int64(n), less == 0)
				checkRight(t, l[:n], floor+less, floor+int64(n)+less, less == 0 || n == 0 && floor+less >= 0 && floor+less <= api.MaxSafe)
			}
		}
	}
	checkRight(t, behind(-1, "+a"), -1, 0, false)
	checkRight(t, behind(-1, "+a +b"), -1, 1, false)
	checkRight(t, behind(-7, "+a"), -7, -6, false)
	checkRight(t, behind(math.MinInt64, "+a"), math.MinInt64, math.MinInt64+1, false)
	checkRight(t, behind(api.MaxSafe-1, "+a"), api.MaxSafe-1, api.MaxSafe, true)
	checkRight(t, behind(api.MaxSafe, "+a"), api.MaxSafe, api.MaxSafe+1, false)
	checkRight(t, behind(api.MaxSafe-1, "+a +b"), api.MaxSafe-1, api.MaxSafe+1, false)
	for _, l := range [][]api.Entry{behind(0, "+a"), behind(-1, "*a"), behind(1, "!a !b"), behind(api.MaxSafe-1, "*a")} {
		for _, floor := range numbers() {
			for _, seq := range numbers() {
				checkRight(t, l, floor, seq, rightOf(l, floor, seq))
			}
		}
	}
}

// P17.1: Seqs that don't go on one by one from the floor.
func TestRightSeqs(t *testing.T) {
	checkRight(t, entries("6+a 7+b 8+c 9+d"), 5, 9, true)
	for _, s := range []string{
		"5+a 6+b 7+c 8+d", "7+a 8+b 9+c 10+d", "5+a 7+b 8+c 9+d", "7+a 7+b 8+c 9+d", "0+a 7+b 8+c 9+d", "1+a 2+b 3+c 4+d",
		"6+a 6+b 8+c 9+d", "6+a 7+b 7+c 9+d", "6+a 7+b 8+c 8+d", "6+a 8+b 8+c 9+d", "6+a 6+b 6+c 6+d",
		"7+a 6+b 8+c 9+d", "6+a 8+b 7+c 9+d", "6+a 7+b 9+c 8+d", "9+a 8+b 7+c 6+d",
		"6+a 7+b 9+c 10+d", "6+a 8+b 9+c 10+d", "6+a 7+b 8+c 10+d", "6+a 7+b 8+c 5+d", "6+a 7+b 8+c 0+d", "-6+a 7+b 8+c 9+d", "6+a 7+b 8+c -9+d",
	} {
		checkRight(t, entries(s), 5, 9, false)
	}
	for i := range 4 {
		for _, n := range numbers() {
			l := entries("6+a 7+b 8+c 9+d")
			was := l[i].Seq
			l[i].Seq = n
			checkRight(t, l, 5, 9, n == was)
			l[i].Seq = was + 1<<32
			checkRight(t, l, 5, 9, false)
		}
	}
}

// P17.1: each What, alone and among others.
func TestRightWhat(t *testing.T) {
	for _, what := range whats() {
		is := what == api.Made || what == api.Changed || what == api.Gone
		checkRight(t, []api.Entry{entry(1, "a", what)}, 0, 1, is)
		checkRight(t, []api.Entry{entry(6, "", what)}, 5, 6, is)
		for i := range 3 {
			l := behind(7, "+a *b !c")
			l[i].What = what
			checkRight(t, l, 7, 10, is)
		}
		// None comes behind a What that is none.
		for _, next := range whats() {
			l := []api.Entry{entry(3, "a", what), entry(4, "a", next)}
			checkRight(t, l, 2, 4, is && what != api.Gone && (next == api.Changed || next == api.Gone))
		}
	}
}

// P17.1: what may come behind what, and that other ids don't matter.
func TestRightAhead(t *testing.T) {
	for _, x := range []struct {
		trail string
		want  bool
	}{
		{"+a", true}, {"*a", true}, {"!a", true},
		{"+a +a", false}, {"*a +a", false}, {"!a +a", false},
		{"+a *a", true}, {"*a *a", true}, {"!a *a", false},
		{"+a !a", true}, {"*a !a", true}, {"!a !a", false},
		{"+a *a *a *a !a", true}, {"*a *a *a *a", true}, {"+a *a !a *a", false}, {"+a *a !a !a", false}, {"+a *a !a +a", false}, {"+a *a *a +a", false}, {"*a *a +a *a", false},
		{"+a !a +a", false}, {"*a !a +a !a", false}, {"+a !a *a", false}, {"+a !a !a", false},
		// Of unlike ids.
		{"+a +b", true}, {"*a +b", true}, {"!a +b", true}, {"!a *b", true}, {"!a !b", true}, {"+a *b", true}, {"*a *b", true}, {"+a !b", true},
		{"!a *A", true}, {"!a +aa", true}, {"!aa +a", true}, {"+C00000000001 +C00000000002 +B00000000001", true},
	} {
		l := behind(4, x.trail)
		checkRight(t, l, 4, 4+int64(len(l)), x.want)
		for _, between := range []string{"+b", "*b", "!b", "+b !b", "*b *b"} {
			parts := strings.Fields(x.trail)
			if len(parts) < 2 || parts[0][1:] != parts[1][1:] {
				continue
			}
			for i := range len(parts) + 1 {
				mixed := strings.Join(slices.Concat(parts[:i], []string{between}, parts[i:]), " ")
				l := behind(0, mixed)
				checkRight(t, l, 0, int64(len(l)), x.want)
			}
		}
	}
	checkRight(t, behind(0, "+a +b *a *b !b !a"), 0, 6, true)
	checkRight(t, behind(0, "+a *b !b *c *a !a !c"), 0, 7, true)
	checkRight(t, behind(0, "+a *b !b *c *a !a !b"), 0, 7, false)
	checkRight(t, behind(0, "+a *b !b *c *a !a +c"), 0, 7, false)
	// Far from one another.
	for _, n := range []int{10, 1000, 70000} {
		l := []api.Entry{entry(1, "x", api.Gone)}
		for i := range n {
			l = append(l, entry(int64(i+2), strconv.Itoa(i), api.Made+i%3))
		}
		seq := int64(n + 2)
		checkRight(t, l, 0, seq-1, true)
		for _, what := range []int{api.Made, api.Changed, api.Gone} {
			checkRight(t, append(l, entry(seq, "x", what)), 0, seq, false)
			checkRight(t, append(l, entry(seq, "y", what)), 0, seq, true)
		}
	}
}

// odd are ids that are empty, and texts that are no ids.
func odd() []string {
	return []string{"", " ", "\x00", "\xff", "\u00e9", "a b", "#a", "a/b", strings.Repeat("i", 255), strings.Repeat("i", 256), strings.Repeat("i", 70000)}
}

// P17.1 to P17.3: ids may be empty, and texts that are no ids: each is one of
// its own.
func TestIds(t *testing.T) {
	for i, id := range odd() {
		l := []api.Entry{entry(1, id, api.Made), entry(2, id, api.Changed), entry(3, id, api.Gone)}
		checkRight(t, l, 0, 3, true)
		checkRight(t, l[:2], 0, 2, true)
		checkSince(t, l, 0, past(id, false, false, 3))
		checkSince(t, l, 1, past(id, true, false, 3))
		checkSince(t, l[:2], 1, past(id, true, true, 2))
		checkAdd(t, l[:2], 0, 2, l[2], l[1:], 1)
		l = append(l, entry(4, id, api.Changed))
		checkRight(t, l, 0, 4, false)
		for j, other := range odd() {
			l[3].Id = other
			checkRight(t, l, 0, 4, i != j)
			if i != j {
				checkSince(t, l, 0, past(id, false, false, 3), past(other, true, true, 4))
			}
		}
	}
}

// P17.2: Add to the empty trail, with each keep.
func TestAddToNone(t *testing.T) {
	for _, n := range numbers() {
		for _, floor := range numbers() {
			for _, what := range whats() {
				e := entry(n, "a", what)
				for _, keep := range []int{math.MinInt, -1000, -1, 0} {
					checkAdd(t, nil, floor, keep, e, nil, n)
					checkAdd(t, []api.Entry{}, floor, keep, e, nil, n)
				}
				for _, keep := range []int{1, 2, 3, api.MaxKeep, math.MaxInt - 1, math.MaxInt} {
					checkAdd(t, nil, floor, keep, e, []api.Entry{e}, floor)
					checkAdd(t, []api.Entry{}, floor, keep, e, []api.Entry{e}, floor)
				}
			}
		}
	}
}

// P17.2: Add to trails of each length, with each keep.
func TestAdd(t *testing.T) {
	all := behind(5, "+a +b *a !b *c *a !a +d *c")
	for n := range len(all) {
		l, e := all[:n], all[n]
		for keep := -3; keep <= len(all)+3; keep++ {
			stay := min(max(keep, 0), n+1)
			floor := int64(5 + n + 1 - stay)
			checkAdd(t, l, 5, keep, e, all[n+1-stay:n+1], floor)
		}
		for _, keep := range []int{math.MinInt, math.MinInt + 1, -1 << 32} {
			checkAdd(t, l, 5, keep, e, nil, e.Seq)
		}
		for _, keep := range []int{math.MaxInt, math.MaxInt - 1, 1 << 32, api.MaxKeep} {
			checkAdd(t, l, 5, keep, e, all[:n+1], 5)
			// The floor is as it was, whatever that is.
			for _, floor := range numbers() {
				checkAdd(t, l, floor, keep, e, all[:n+1], floor)
			}
		}
	}
	l, e := all[:4], all[4]
	checkAdd(t, l, 5, 6, e, all[:5], 5)
	checkAdd(t, l, 5, 5, e, all[:5], 5)
	checkAdd(t, l, 5, 4, e, all[1:5], 6)
	checkAdd(t, l, 5, 3, e, all[2:5], 7)
	checkAdd(t, l, 5, 1, e, all[4:5], 9)
	checkAdd(t, l, 5, 0, e, nil, 10)
	checkAdd(t, l, 5, -1, e, nil, 10)
}

// P17.2: of trails that aren't right the entries' own Seqs tell the floor.
func TestAddNotRight(t *testing.T) {
	for _, s := range []string{"9+a 8+a 7!b 7*b -3+c", "1!a 1!a 1!a 1+a", "100+a 3+b 50+c", "-1*", "0+ 0+ 0+"} {
		l := entries(s)
		for _, e := range []api.Entry{entry(4, "e", 0), entry(-4, "", 9), entry(math.MinInt64, "a", api.Made), entry(math.MaxInt64, "a", -1)} {
			for keep := -2; keep <= len(l)+3; keep++ {
				for _, floor := range numbers() {
					want, wantFloor := addOf(l, floor, keep, e)
					checkAdd(t, l, floor, keep, e, want, wantFloor)
				}
			}
		}
	}
	l := entries("9+a 8+a 7!b")
	e := entry(2, "z", 77)
	checkAdd(t, l, 5, 4, e, append(slices.Clone(l), e), 5)
	checkAdd(t, l, 5, 3, e, append(slices.Clone(l[1:]), e), 9)
	checkAdd(t, l, 5, 2, e, append(slices.Clone(l[2:]), e), 8)
	checkAdd(t, l, 5, 1, e, []api.Entry{e}, 7)
	checkAdd(t, l, 5, 0, e, nil, 2)
}

// P17.3: the empty trail, and numbers behind all entries.
func TestSinceNothing(t *testing.T) {
	l := behind(5, "+a +b *a !b")
	for _, n := range numbers() {
		checkSince(t, nil, n)
		checkSince(t, []api.Entry{}, n)
		if n >= 9 {
			checkSince(t, l, n)
		}
	}
	checkSince(t, l, 9)
	checkSince(t, l, 10)
	checkSince(t, l[:1], 6)
	checkSince(t, []api.Entry{entry(math.MaxInt64, "a", api.Made)}, math.MaxInt64)
	checkSince(t, []api.Entry{entry(math.MinInt64, "a", api.Made)}, math.MinInt64)
	checkSince(t, []api.Entry{entry(math.MaxInt64, "a", api.Made)}, math.MaxInt64-1, past("a", false, true, math.MaxInt64))
	checkSince(t, []api.Entry{entry(math.MinInt64+1, "a", api.Gone)}, math.MinInt64, past("a", true, false, math.MinInt64+1))
}

// P17.3: a trail since each number.
func TestSince(t *testing.T) {
	l := behind(5, "+a *b *a !b +c !c *a *d")
	for _, n := range []int64{math.MinInt64, -1, 0, 4, 5} {
		checkSince(t, l, n, past("b", true, false, 9), past("c", false, false, 11), past("a", false, true, 12), past("d", true, true, 13))
	}
	for _, n := range []int64{6, 7, 8} {
		checkSince(t, l, n, past("b", true, false, 9), past("c", false, false, 11), past("a", true, true, 12), past("d", true, true, 13))
	}
	checkSince(t, l, 9, past("c", false, false, 11), past("a", true, true, 12), past("d", true, true, 13))
	checkSince(t, l, 10, past("c", true, false, 11), past("a", true, true, 12), past("d", true, true, 13))
	checkSince(t, l, 11, past("a", true, true, 12), past("d", true, true, 13))
	checkSince(t, l, 12, past("d", true, true, 13))
	checkSince(t, l, 13)
}

// P17.3: an id's entries, one or several.
func TestSinceOne(t *testing.T) {
	for _, x := range []struct {
		trail   string
		was, is bool
	}{
		{"+a", false, true}, {"*a", true, true}, {"!a", true, false},
		{"+a *a", false, true}, {"+a !a", false, false}, {"*a *a", true, true}, {"*a !a", true, false},
		{"+a *a *a", false, true}, {"+a *a !a", false, false}, {"*a *a !a", true, false}, {"*a *a *a *a *a", true, true},
	} {
		l := behind(3, x.trail)
		last := 3 + int64(len(l))
		checkSince(t, l, 3, past("a", x.was, x.is, last))
		checkSince(t, l, 0, past("a", x.was, x.is, last))
		checkSince(t, l, last)
		// Behind entries that lie at or below the number.
		for _, ahead := range []string{"+a", "*a", "!a", "+a *a", "+a !a"} {
			all := slices.Concat(behind(3-int64(len(strings.Fields(ahead))), ahead), l)
			checkSince(t, all, 3, past("a", x.was, x.is, last))
			checkSince(t, all, -10, past("a", ahead[0] != '+', x.is, last))
		}
		// Among others.
		all := slices.Concat(l, behind(last, "+b !c"))
		checkSince(t, all, 3, past("a", x.was, x.is, last), past("b", false, true, last+1), past("c", true, false, last+2))
		all = slices.Concat(behind(0, "+b *c !d"), l)
		checkSince(t, all, 0, past("b", false, true, 1), past("c", true, true, 2), past("d", true, false, 3), past("a", x.was, x.is, last))
		checkSince(t, all, 3, past("a", x.was, x.is, last))
	}
}

// P17.3: pasts stand by Last, not by where an id stood first, nor by ids.
func TestSinceOrder(t *testing.T) {
	checkSince(t, behind(0, "+a +b *a"), 0, past("b", false, true, 2), past("a", false, true, 3))
	checkSince(t, behind(0, "+b +a *b"), 0, past("a", false, true, 2), past("b", false, true, 3))
	checkSince(t, behind(0, "*c *b *a"), 0, past("c", true, true, 1), past("b", true, true, 2), past("a", true, true, 3))
	checkSince(t, behind(0, "*a *b *c *c *b *a"), 0, past("c", true, true, 4), past("b", true, true, 5), past("a", true, true, 6))
	checkSince(t, behind(0, "*a *b *c *a *b *c"), 2, past("a", true, true, 4), past("b", true, true, 5), past("c", true, true, 6))
	checkSince(t, behind(0, "*9 *10 *a *B"), 0, past("9", true, true, 1), past("10", true, true, 2), past("a", true, true, 3), past("B", true, true, 4))
	// Numbers, not texts of them.
	checkSince(t, entries("9+a 10+b 100+c 2147483648+d 4294967297+e"), 8, past("a", false, true, 9), past("b", false, true, 10), past("c", false, true, 100), past("d", false, true, 1<<31), past("e", false, true, 1<<32+1))
}

// P17.3: trails that aren't right: of an id the places tell what is first and
// last; the pasts stand by Last, and by the places where that is the same.
func TestSinceNotRight(t *testing.T) {
	// Seqs that fall.
	checkSince(t, entries("3+a 2+b 1+c"), 0, past("c", false, true, 1), past("b", false, true, 2), past("a", false, true, 3))
	checkSince(t, entries("3+a 2+b 1+c"), 1, past("b", false, true, 2), past("a", false, true, 3))
	checkSince(t, entries("3+a 2!a"), 0, past("a", false, false, 2))
	checkSince(t, entries("3+a 2!a"), 2, past("a", false, true, 3))
	checkSince(t, entries("9*a 5+b 3!a"), 4, past("b", false, true, 5), past("a", true, true, 9))
	checkSince(t, entries("9*a 5+b 3!a"), 2, past("a", true, false, 3), past("b", false, true, 5))
	// Seqs that stand twice.
	checkSince(t, entries("1+b 1+a 1+c"), 0, past("b", false, true, 1), past("a", false, true, 1), past("c", false, true, 1))
	checkSince(t, entries("1+b 1+a 1*b"), 0, past("a", false, true, 1), past("b", false, true, 1))
	checkSince(t, entries("2+b 1+a 2*c 1*a 2+a 1!d 1!e"), 0, past("d", true, false, 1), past("e", true, false, 1), past("b", false, true, 2), past("c", true, true, 2), past("a", false, true, 2))
	checkSince(t, entries("2+b 1+a 2*c 1*a 2+a 1!d 1!e"), 1, past("b", false, true, 2), past("c", true, true, 2), past("a", false, true, 2))
	// An entry at the number, or below it, behind an id's last one, is no
	// place.
	checkSince(t, entries("2+a 2+b 1*a"), 1, past("a", false, true, 2), past("b", false, true, 2))
	checkSince(t, entries("2+b 2+a 0!b 1*b 1*a"), 1, past("b", false, true, 2), past("a", false, true, 2))
	// What doesn't fit what is ahead.
	checkSince(t, behind(0, "!a +a"), 0, past("a", true, true, 2))
	checkSince(t, behind(0, "+a !a +a"), 0, past("a", false, true, 3))
	checkSince(t, behind(0, "*a +a !a *a"), 0, past("a", true, true, 4))
	checkSince(t, behind(0, "*a +a !a *a"), 1, past("a", false, true, 4))
	// What is none: neither Made nor Gone.
	for _, what := range whats() {
		checkSince(t, []api.Entry{entry(1, "a", what)}, 0, past("a", what != api.Made, what != api.Gone, 1))
		checkSince(t, []api.Entry{entry(1, "a", what), entry(2, "a", api.Gone)}, 0, past("a", what != api.Made, false, 2))
		checkSince(t, []api.Entry{entry(1, "a", api.Made), entry(2, "a", what)}, 0, past("a", false, what != api.Gone, 2))
	}
	// Many of the same Seq stay in the order of their places, whatever others
	// stand between them.
	for _, seqs := range []int{1, 2, 3, 7} {
		var l []api.Entry
		want := make([][]trail.Past, seqs)
		for i := range 5000 {
			id, at := strconv.Itoa(i*7919%5000), i*i%seqs
			l = append(l, entry(int64(at), id, api.Made+i%3))
			want[at] = append(want[at], past(id, i%3 != 0, i%3 != 2, int64(at)))
		}
		checkSince(t, l, -1, slices.Concat(want...)...)
		checkSince(t, l, 0, slices.Concat(want[1:]...)...)
	}
}

// P17.1 to P17.3: all short trails.
func TestShort(t *testing.T) {
	var some, plain []api.Entry
	for _, id := range []string{"a", "b"} {
		for what := range 5 {
			plain = append(plain, entry(0, id, what))
		}
		for seq := range int64(4) {
			some = append(some, entry(seq, id, api.Made), entry(seq, id, api.Changed), entry(seq, id, api.Gone))
		}
	}
	right := 0
	eachTrail(plain, 5, func(l []api.Entry) {
		for i := range l {
			l[i].Seq = int64(i) + 4
		}
		n := int64(len(l))
		if want := rightOf(l, 3, n+3); trail.Right(l, 3, n+3) != want {
			t.Fatalf("Right(%s, 3, %d) = %t", show(l), n+3, !want)
		} else if want {
			right++
		}
		checkSince(t, l, n/2+3, sinceOf(l, n/2+3)...)
	})
	if right < 500 {
		t.Errorf("%d right trails", right)
	}
	eachTrail(some, 4, func(l []api.Entry) {
		n := int64(len(l)) % 3
		checkSince(t, l, n, sinceOf(l, n)...)
		if len(l) > 3 {
			return
		}
		for floor := range int64(3) {
			checkRight(t, l, floor, floor+n, rightOf(l, floor, floor+n))
			keep := int(floor+n) - 1
			want, wantFloor := addOf(l, floor, keep, entry(9, "c", api.Changed))
			checkAdd(t, l, floor, keep, entry(9, "c", api.Changed), want, wantFloor)
		}
	})
}

// P17.1 to P17.3: trails that are made by chance.
func TestChance(t *testing.T) {
	r := rand.New(rand.NewSource(171))
	ids := []string{"", "a", "b", "c", "d", "aa", "\xff"}
	for range 20000 {
		var l []api.Entry
		floor := int64(r.Intn(6)) - 1
		for i := range r.Intn(20) {
			e := entry(floor+int64(i)+1, ids[r.Intn(len(ids))], r.Intn(3)+1)
			if r.Intn(60) == 0 {
				e.What = r.Intn(9) - 3
			}
			if r.Intn(30) == 0 {
				e.Seq += int64(r.Intn(9)) - 4
			}
			if may := mayComeOf(l, e.Id); r.Intn(20) > 0 && len(may) > 0 {
				e.What = may[r.Intn(len(may))]
			}
			l = append(l, e)
		}
		seq := floor + int64(len(l))
		for _, less := range []int64{0, 1, -1} {
			checkRight(t, l, floor, seq+less, rightOf(l, floor, seq+less))
		}
		n := floor + int64(r.Intn(len(l)+2)) - 1
		checkSince(t, l, n, sinceOf(l, n)...)
		keep, e := r.Intn(len(l)+4)-1, entry(seq+1, ids[r.Intn(len(ids))], r.Intn(3)+1)
		want, wantFloor := addOf(l, floor, keep, e)
		checkAdd(t, l, floor, keep, e, want, wantFloor)
	}
}

// P17.4: an entry of the next number that may come leaves a right trail right
// above the floor that is told; one that may not come doesn't, where it is kept
// with what is ahead of it.
func TestNext(t *testing.T) {
	grown := 0
	for _, start := range []int64{0, 3, api.MaxSafe - 2} {
		for keep := range 7 {
			var grow func(l []api.Entry, floor, seq int64, most int)
			grow = func(l []api.Entry, floor, seq int64, most int) {
				checkRight(t, l, floor, seq, true)
				if most == 0 || seq == api.MaxSafe {
					return
				}
				for _, id := range []string{"a", "b"} {
					for _, what := range []int{api.Made, api.Changed, api.Gone} {
						e := entry(seq+1, id, what)
						next, nextFloor := trail.Add(l, floor, keep, e)
						if !slices.Contains(mayComeOf(l, id), what) {
							all, f := trail.Add(l, floor, len(l)+1, e)
							checkRight(t, all, f, e.Seq, false)
							continue
						}
						grown++
						grow(next, nextFloor, e.Seq, most-1)
					}
				}
			}
			grow(nil, start, start, 5)
		}
	}
	if grown < 10000 {
		t.Errorf("%d trails", grown)
	}
}

// P17.4: trails that go on for long, with each keep.
func TestGoOn(t *testing.T) {
	r := rand.New(rand.NewSource(174))
	for _, keep := range []int{-1, 0, 1, 2, 3, 10, 50, api.MaxKeep} {
		var l []api.Entry
		floor, seq := int64(7), int64(7)
		for tries := 0; seq < 3000; tries++ {
			// There are always ids of which nothing is gone yet.
			id := strconv.Itoa(r.Intn(60) + tries/3)
			may := mayComeOf(l, id)
			if len(may) == 0 {
				continue
			}
			seq++
			e := entry(seq, id, may[r.Intn(len(may))])
			want, wantFloor := addOf(l, floor, keep, e)
			checkAdd(t, l, floor, keep, e, want, wantFloor)
			l, floor = trail.Add(l, floor, keep, e)
			checkRight(t, l, floor, seq, true)
			checkRight(t, l, floor-1, seq, false)
			checkRight(t, l, floor, seq+1, false)
		}
		if len(l) != min(max(keep, 0), 2993) || floor != max(7, seq-int64(max(keep, 0))) {
			t.Errorf("with keep %d: %d entries, floor %d", keep, len(l), floor)
		}
	}
}

// samples are trails of many kinds, right ones and others.
func samples() [][]api.Entry {
	return [][]api.Entry{nil, behind(0, "+a"), behind(5, "+a +b *a !b"), behind(0, "*a *a *a *a *a *a *a *a"), behind(2, "+a +b +c +d +e +f +g +h +i"), entries("3+a 2+b 1+c"), entries("1+b 1+a 1*b"), behind(0, "!a +a +a !")}
}

// scribble writes over all of a list, its spare room too.
func scribble[T any](l []T, over T) {
	l = l[:cap(l)]
	for i := range l {
		l[i] = over
	}
}

// P17.5: what is handed in stays, its spare room too; what is answered may be
// written over; asked again, the calls tell the same.
func TestMemory(t *testing.T) {
	spare, over := entry(77, "spare", api.Changed), entry(-7, "over", -1)
	e := entry(10, "e", api.Made)
	for _, sample := range samples() {
		for _, room := range []int{0, 1, 9} {
			for from := range len(sample) + 1 {
				all := slices.Concat(sample, slices.Repeat([]api.Entry{spare}, room))
				before := slices.Clone(all)
				l := all[from:len(sample)]
				isRight := rightOf(l, 2, 11)
				for n := range int64(9) {
					for keep := -1; keep <= len(l)+2; keep++ {
						want, wantFloor := addOf(l, 5, keep, e)
						pasts := sinceOf(l, n)
						for range 2 {
							checkRight(t, l, 2, 11, isRight)
							checkAdd(t, l, 5, keep, e, want, wantFloor)
							checkSince(t, l, n, pasts...)
							added, _ := trail.Add(l, 5, keep, e)
							scribble(added, over)
							scribble(trail.Since(l, n), past("over", true, true, -7))
							if !slices.Equal(all, before) {
								t.Fatalf("%s was changed: %s", show(before), show(all))
							}
						}
						// What is written over behind an answer isn't seen in it.
						added, _ := trail.Add(l, 5, keep, e)
						told := trail.Since(l, n)
						scribble(all, over)
						if !slices.Equal(added, want) || !slices.Equal(told, pasts) {
							t.Fatalf("%s, %s: changed by what was handed in", show(added), show(told))
						}
						copy(all, before)
					}
				}
			}
		}
	}
}

// P17.5: two answers share no list, with one another or with what was handed
// in.
func TestTwoAnswers(t *testing.T) {
	for _, l := range samples() {
		l = slices.Grow(slices.Clone(l), 5)
		for keep := range len(l) + 3 {
			e := entry(10, "e", api.Made)
			first, _ := trail.Add(l, 5, keep, e)
			second, _ := trail.Add(l, 5, keep, e)
			third, _ := trail.Add(first, 5, keep+1, e)
			if overlap(first, l) || overlap(first, second) || overlap(third, first) {
				t.Fatalf("Add(%s, ..) shares a list", show(l))
			}
		}
		if first, second := trail.Since(l, 0), trail.Since(l, 0); overlap(first, second) {
			t.Fatalf("Since(%s, 0) shares a list", show(l))
		}
	}
}

// overlap tells whether two lists, with their spare room, lie in one another.
func overlap[T any](a, b []T) bool {
	from := func(l []T) uintptr { return uintptr(unsafe.Pointer(unsafe.SliceData(l))) }
	var one T
	to := func(l []T) uintptr { return from(l) + uintptr(cap(l))*unsafe.Sizeof(one) }
	return cap(a) > 0 && cap(b) > 0 && from(a) < to(b) && from(b) < to(a)
}

// P1: all calls end, and none panics, at trails that are long.
func TestLong(t *testing.T) {
	const n = 1 << 19
	var one, many, twice []api.Entry
	for i := range n {
		one = append(one, entry(int64(i+1), "a", api.Changed))
		many = append(many, entry(int64(i+1), strconv.Itoa(i), api.Made+i%3))
		twice = append(twice, entry(int64(n-i), strconv.Itoa(i%(n/2)), api.Made+i/(n/2)))
	}
	checkRight(t, one, 0, n, true)
	checkRight(t, many, 0, n, true)
	checkRight(t, twice, 0, n, false)
	checkSince(t, one, 0, past("a", true, true, n))
	checkSince(t, one, n-1, past("a", true, true, n))
	if got := trail.Since(many, n/2); len(got) != n/2 || got[0].Last != n/2+1 || got[n/2-1].Last != n {
		t.Errorf("Since tells %d pasts of many", len(got))
	}
	if got := trail.Since(twice, 0); len(got) != n/2 || got[0] != past(strconv.Itoa(n/2-1), false, true, 1) || got[n/2-1] != past("0", false, true, n/2) {
		t.Errorf("Since tells %d pasts of those that stand twice", len(got))
	}
	e := entry(n+1, "b", api.Gone)
	checkAdd(t, one, 0, n+1, e, append(slices.Clone(one), e), 0)
	checkAdd(t, one, 0, n, e, append(slices.Clone(one[1:]), e), 1)
	checkAdd(t, one, 0, 1, e, []api.Entry{e}, n)
	checkAdd(t, one, 0, math.MinInt, e, nil, n+1)
}

// P1: all calls end, and none panics, at numbers of all kinds.
func TestNumbers(t *testing.T) {
	for _, a := range numbers() {
		for _, b := range numbers() {
			for _, what := range whats() {
				l := []api.Entry{entry(a, "a", what), entry(b, "b", api.Made), entry(a, "b", api.Gone)}
				for _, c := range numbers() {
					checkRight(t, l, b, c, rightOf(l, b, c))
					checkRight(t, l, c, a, rightOf(l, c, a))
					checkSince(t, l, c, sinceOf(l, c)...)
					checkSince(t, l[:2], c, sinceOf(l[:2], c)...)
				}
			}
		}
	}
}

// The section 'Examples'.
func TestExamples(t *testing.T) {
	l := []api.Entry{entry(1, "a", api.Made), entry(2, "b", api.Made), entry(3, "a", api.Gone), entry(4, "b", api.Changed)}
	checkRight(t, l, 0, 4, true)
	checkSince(t, l, 0, past("a", false, false, 3), past("b", false, true, 4))
	checkSince(t, l, 2, past("a", true, false, 3), past("b", true, true, 4))
	fifth := entry(5, "b", api.Gone)
	checkAdd(t, l, 0, 2, fifth, []api.Entry{l[3], fifth}, 3)
}
