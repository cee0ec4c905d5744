package ident_test

import (
	"math"
	"math/rand"
	"regexp"
	"slices"
	"strconv"
	"strings"
	"testing"

	"cardbox/api"
	"cardbox/ident"
)

// known are numbers with the eleven digits that their ids have.
var known = []struct {
	n      int64
	digits string
}{
	{0, "00000000000"}, {1, "00000000001"}, {2, "00000000002"}, {7, "00000000007"}, {8, "00000000008"}, {9, "00000000009"},
	{10, "0000000000a"}, {11, "0000000000b"}, {15, "0000000000f"}, {16, "0000000000g"}, {30, "0000000000u"}, {31, "0000000000v"},
	{32, "00000000010"}, {33, "00000000011"}, {35, "00000000013"}, {41, "00000000019"}, {42, "0000000001a"}, {63, "0000000001v"}, {64, "00000000020"},
	{1<<10 - 1, "000000000vv"}, {1 << 10, "00000000100"}, {1<<15 - 1, "00000000vvv"}, {1 << 15, "00000001000"}, {1 << 16, "00000002000"},
	{1 << 20, "00000010000"}, {1 << 25, "00000100000"}, {1 << 30, "00001000000"}, {1<<31 - 1, "00001vvvvvv"}, {1 << 31, "00002000000"},
	{1<<32 - 1, "00003vvvvvv"}, {1 << 32, "00004000000"}, {1<<32 + 1, "00004000001"}, {1 << 35, "00010000000"}, {1 << 40, "00100000000"}, {1 << 45, "01000000000"},
	{1<<50 - 1, "0vvvvvvvvvv"}, {1 << 50, "10000000000"}, {1 << 51, "20000000000"}, {1 << 52, "40000000000"}, {1<<52 + 1, "40000000001"},
	{339089082075361, "09kcpa4hi71"}, {36207086550377, "010tof8gfb9"},
	{9007199254740989, "7vvvvvvvvvt"}, {9007199254740990, "7vvvvvvvvvu"}, {9007199254740991, "7vvvvvvvvvv"},
}

// beyond are numbers that have no id and no state.
var beyond = []int64{
	-1, -2, -9, -10, -31, -32, -33, -1 << 31, -1 << 32, -1 << 52, -1<<53 + 1, -1 << 53, -1<<53 - 1, math.MinInt64, math.MinInt64 + 1, math.MinInt64 + 35,
	1 << 53, 1<<53 + 1, 1<<53 + 35, 1 << 54, 1<<55 - 1, 1 << 55, 1<<55 + 1, 1<<60 + 7, math.MaxInt64 - 1, math.MaxInt64,
}

// kinds are the two kinds, with the letters of their ids and states.
var kinds = []struct {
	kind      int
	id, state string
}{{api.Card, "C", "c"}, {api.Book, "B", "b"}}

// noKinds are neither Card nor Book; of some the lower bits alone, or the
// number's own letter, look like one.
var noKinds = []int{
	0, 3, 4, 5, 6, 7, 10, 11, -1, -2, -3, 'C', 'B', 'c', 'b', '1', '2', 1<<8 + 1, 1<<8 + 2, 1<<16 + 1, 1<<31 + 2,
	1<<32 + 1, 1<<32 + 2, -1<<32 + 1, math.MinInt, math.MinInt + 1, math.MinInt + 2, math.MaxInt, math.MaxInt - 1,
}

// idForm is the form of ids, numberForm that of ids that a number may have,
// stateForm that of states.
var (
	idForm     = regexp.MustCompile(`^[A-Za-z0-9_-]{1,255}$`)
	numberForm = regexp.MustCompile(`^([CB])([0-9a-v]{11})$`)
	stateForm  = regexp.MustCompile(`^([cb])(0|[1-9][0-9]*)$`)
)

// latin makes a point of each byte, for the library tells points apart.
func latin(s string) string {
	l := make([]rune, len(s))
	for i := range len(s) {
		l[i] = rune(s[i])
	}
	return string(l)
}

// isOf is what Is ought to tell, by the library.
func isOf(s string) bool { return idForm.MatchString(latin(s)) }

// makeOf is what Make ought to tell, by the library, of a number from 0 to
// MaxSafe.
func makeOf(letter string, n int64) string {
	digits := strconv.FormatInt(n, 32)
	return letter + strings.Repeat("0", 11-len(digits)) + digits
}

// numberOf is what Number ought to tell, by the library.
func numberOf(s string) (int, int64, bool) {
	m := numberForm.FindStringSubmatch(latin(s))
	if m == nil {
		return 0, 0, false
	}
	n, err := strconv.ParseInt(m[2], 32, 64)
	if err != nil || n >= 1<<53 {
		return 0, 0, false
	}
	if m[1] == "C" {
		return 1, n, true
	}
	return 2, n, true
}

// seqOf is what Seq ought to tell, by the library.
func seqOf(kind int, s string) (int64, api.Errno) {
	m := stateForm.FindStringSubmatch(latin(s))
	if m == nil || kind != map[string]int{"c": 1, "b": 2}[m[1]] {
		return 0, 100
	}
	n, err := strconv.ParseInt(m[2], 10, 64)
	if err != nil || n >= 1<<53 {
		return 0, 100
	}
	return n, 0
}

// checkIs holds Is against what is wanted.
func checkIs(t *testing.T, s string, want bool) {
	t.Helper()
	if got := ident.Is(s); got != want {
		t.Fatalf("Is(%.60q), of %d bytes, = %t; want %t", s, len(s), got, want)
	}
}

// checkMake holds Make against what is wanted.
func checkMake(t *testing.T, kind int, n int64, want string) {
	t.Helper()
	if got := ident.Make(kind, n); got != want {
		t.Fatalf("Make(%d, %d) = %q; want %q", kind, n, got, want)
	}
}

// checkNumber holds Number against what is wanted.
func checkNumber(t *testing.T, s string, kind int, n int64, ok bool) {
	t.Helper()
	if gotKind, gotN, got := ident.Number(s); gotKind != kind || gotN != n || got != ok {
		t.Fatalf("Number(%.60q) = %d, %d, %t; want %d, %d, %t", s, gotKind, gotN, got, kind, n, ok)
	}
}

// checkNone holds Number against false.
func checkNone(t *testing.T, texts ...string) {
	t.Helper()
	for _, s := range texts {
		checkNumber(t, s, 0, 0, false)
	}
}

// checkState holds State against what is wanted.
func checkState(t *testing.T, kind int, n int64, want string) {
	t.Helper()
	if got := ident.State(kind, n); got != want {
		t.Fatalf("State(%d, %d) = %q; want %q", kind, n, got, want)
	}
}

// checkSeq holds Seq against what is wanted.
func checkSeq(t *testing.T, kind int, s string, n int64, e api.Errno) {
	t.Helper()
	if gotN, got := ident.Seq(kind, s); gotN != n || got != e {
		t.Fatalf("Seq(%d, %.60q) = %d, %d; want %d, %d", kind, s, gotN, got, n, e)
	}
}

// checkFault holds Seq against ErrState, for the two kinds and all others.
func checkFault(t *testing.T, texts ...string) {
	t.Helper()
	for _, s := range texts {
		for _, kind := range append([]int{api.Card, api.Book}, noKinds...) {
			checkSeq(t, kind, s, 0, api.ErrState)
		}
	}
}

// checkText holds Is, Number and Seq of a text against the library.
func checkText(t *testing.T, s string) {
	t.Helper()
	checkIs(t, s, isOf(s))
	kind, n, ok := numberOf(s)
	checkNumber(t, s, kind, n, ok)
	for _, kind := range []int{api.Card, api.Book, 0, -1, 3} {
		n, e := seqOf(kind, s)
		checkSeq(t, kind, s, n, e)
	}
}

// checkBack makes the id and the state of a number, and reads them back.
func checkBack(t *testing.T, n int64) {
	t.Helper()
	for _, k := range kinds {
		if n < 0 || n >= 1<<53 {
			checkMake(t, k.kind, n, "")
			checkState(t, k.kind, n, "")
			continue
		}
		id, state := makeOf(k.id, n), k.state+strconv.FormatInt(n, 10)
		checkMake(t, k.kind, n, id)
		checkNumber(t, id, k.kind, n, true)
		checkIs(t, id, true)
		checkState(t, k.kind, n, state)
		checkSeq(t, k.kind, state, n, api.OK)
		checkSeq(t, 3-k.kind, state, 0, api.ErrState)
	}
}

// eachNumber calls f with numbers of all lengths and both signs: all small
// ones, around powers of 2 and around sums of them, and some by chance.
func eachNumber(f func(int64)) {
	for n := int64(-1100); n <= 70000; n++ {
		f(n)
	}
	for i := range 64 {
		for d := int64(-40); d <= 40; d++ {
			f(int64(uint64(1)<<i) + d)
			f(-int64(uint64(1)<<i) + d)
		}
		for j := range i {
			f(int64(uint64(1)<<i | uint64(1)<<j))
			f(int64(uint64(1)<<i - uint64(1)<<j))
		}
	}
	random := rand.New(rand.NewSource(101))
	for i := range 100000 {
		f(int64(random.Uint64()) >> (i % 64))
	}
}

// P10.1: Is with each byte, alone and beside right ones.
func TestIsOfBytes(t *testing.T) {
	const may = "ABCDEFGHIJKLMNOPQRSTUVWXYZabcdefghijklmnopqrstuvwxyz0123456789-_"
	for c := range 256 {
		b := string([]byte{byte(c)})
		want := strings.Contains(may, b)
		for _, s := range []string{b, b + b, "a" + b, b + "a", "Z" + b + "9", "0-_" + b, b + "0-_", strings.Repeat("a", 254) + b, b + strings.Repeat("_", 254)} {
			checkIs(t, s, want)
		}
		checkIs(t, b+strings.Repeat("a", 255), false)
		checkIs(t, strings.Repeat("a", 255)+b, false)
	}
	checkIs(t, may, true)
	for _, s := range []string{
		"@", "[", "`", "{", "/", ":", ",", ".", "^", "+", " ", "\x00", "\x1f", "\x7f", "\n", "#b", "a/b", "a b", "a\n", "\na", "a\x00", "*", "~0", "a.b", "a,b", "=", "\"a\"",
		"\x80", "\xff", "\xc1", "\xe1", "\xb0", "\xad", "\xdf", "a\xc3", "\u00e9", "a\u00e9", "\u00e9a", "\u0660", "\uff11", "\uff21", "\uff41", "\u2010", "\u2212", "\uff3f", "\u0430", "\u017f", "\u212a", "\ufeffa", "\U0001f600",
	} {
		checkIs(t, s, false)
	}
	for _, s := range []string{"A", "Z", "a", "z", "0", "9", "-", "_", "--", "__", "-1", "_a", "C00000000013", "b7", "0", "007", "null", "A-Z_a-z_0-9"} {
		checkIs(t, s, true)
	}
}

// P10.1: Is of texts of all lengths up to some beyond MaxId, and of long ones.
func TestIsOfLengths(t *testing.T) {
	checkIs(t, "", false)
	for _, b := range []string{"A", "z", "5", "-", "_"} {
		for n := 1; n <= 600; n++ {
			checkIs(t, strings.Repeat(b, n), n <= 255)
		}
		for _, n := range []int{1<<16 + 1, 1<<16 + 255, 1 << 20} {
			checkIs(t, strings.Repeat(b, n), false)
		}
	}
	// It is bytes that are counted, and a wrong one is one at each place.
	checkIs(t, strings.Repeat("\u00e9", 128), false)
	checkIs(t, strings.Repeat("\u00e9", 100), false)
	for _, n := range []int{1, 2, 3, 12, 254, 255} {
		for at := range n {
			s := []byte(strings.Repeat("k", n))
			for _, c := range []byte{'@', '[', '`', '{', '/', ':', '.', '^', 0, 0x80, 0xff} {
				s[at] = c
				checkIs(t, string(s), false)
			}
		}
	}
}

// P10.1: Make of both kinds, and Number of what it tells.
func TestMake(t *testing.T) {
	for _, x := range known {
		for _, k := range kinds {
			checkMake(t, k.kind, x.n, k.id+x.digits)
			checkNumber(t, k.id+x.digits, k.kind, x.n, true)
		}
	}
}

// P10.1 and P10.2: numbers that have no id and no state.
func TestBeyond(t *testing.T) {
	for _, n := range beyond {
		for _, k := range kinds {
			checkMake(t, k.kind, n, "")
			checkState(t, k.kind, n, "")
		}
	}
}

// P10.1 and P10.2: kinds that are neither, with numbers that are right and not.
func TestNoKinds(t *testing.T) {
	numbers := append([]int64{0, 1, 9, 10, 31, 32, 33, 35, api.MaxSafe - 1, api.MaxSafe}, beyond...)
	for _, kind := range noKinds {
		for _, n := range numbers {
			checkMake(t, kind, n, "")
			checkState(t, kind, n, "")
			digits := strconv.FormatInt(n, 10)
			for _, s := range []string{digits, "c" + digits, "b" + digits, "\x00" + digits, " " + digits, "-" + digits, "0" + digits, string(rune(byte(kind))) + digits} {
				checkSeq(t, kind, s, 0, api.ErrState)
			}
		}
		for _, s := range []string{"", "c", "b", "c0", "b0", "\x000", "\x00", "C0", "B0", "x1"} {
			checkSeq(t, kind, s, 0, api.ErrState)
		}
	}
}

// P10.1: Number of texts of another length.
func TestNumberOfLengths(t *testing.T) {
	checkNone(t, "", "C", "B", "c", "0", "00000000013", "C0", "B1", "C13", "C0000000013", "B0000000013", "C000000000013", "B000000000013")
	for _, k := range kinds {
		for n := range 400 {
			for _, d := range []string{"0", "1", "7", "v"} {
				s := k.id + strings.Repeat(d, n)
				kind, number, ok := numberOf(s)
				checkNumber(t, s, kind, number, ok)
				checkNone(t, strings.Repeat(d, n))
			}
		}
		checkNone(t, k.id+strings.Repeat("0", 1<<20), k.id+strings.Repeat("0", 256+11), k.id+strings.Repeat("0", 1<<16+11))
		for _, b := range []string{"0", " ", "\x00", "\n", "C", "B", "-", "\xff"} {
			checkNone(t, k.id+"00000000013"+b, b+k.id+"00000000013", k.id+b+"00000000013")
		}
	}
}

// P10.1: Number of texts with each byte as their first letter.
func TestNumberOfLetters(t *testing.T) {
	for c := range 256 {
		b := string([]byte{byte(c)})
		for _, x := range known {
			switch b {
			case "C":
				checkNumber(t, b+x.digits, api.Card, x.n, true)
			case "B":
				checkNumber(t, b+x.digits, api.Book, x.n, true)
			default:
				checkNone(t, b+x.digits)
			}
		}
	}
	for _, s := range []string{"c00000000013", "b00000000013", "A00000000013", "D00000000013", "X00000000013", "x00000000013", "\x0000000000013", "\x0100000000013", "000000000013", "\u00c7000000000", "\u00c70000000013", "\u042100000000013", "\u0421000000013"} {
		checkNone(t, s)
	}
}

// P10.1: Number of texts with each byte at each place of their digits.
func TestNumberOfDigits(t *testing.T) {
	for _, k := range kinds {
		for at := 1; at <= 11; at++ {
			for c := range 256 {
				for _, from := range []string{"00000000000", "7vvvvvvvvvv", "01234567abc", "12300000000"} {
					s := []byte(k.id + from)
					s[at] = byte(c)
					kind, n, ok := numberOf(string(s))
					checkNumber(t, string(s), kind, n, ok)
				}
			}
			for _, d := range []string{"A", "V", "F", "w", "x", "z", "W", "/", ":", "`", "@", "-", "+", "_", " ", ".", "\x00", "\x80", "\xb0", "\xff"} {
				digits := strings.Repeat("0", 11)
				checkNone(t, k.id+digits[:at-1]+d+digits[at:])
			}
		}
		checkNone(t, k.id+"0000000000V", k.id+"0000000000w", k.id+"000000000-1", k.id+"-0000000001", k.id+"+0000000001", k.id+" 0000000001", k.id+"0000000001 ", k.id+"0_000000001", k.id+"0x000000001", k.id+"000000000\u00e9")
	}
}

// P10.1: Number of texts whose digits are of a number above MaxSafe.
func TestNumberAbove(t *testing.T) {
	for _, k := range kinds {
		checkNumber(t, k.id+"7vvvvvvvvvv", k.kind, api.MaxSafe, true)
		for _, first := range "89abcdefghijklmnopqrstuv" {
			for _, rest := range []string{"0000000000", "0000000001", "0000000013", "vvvvvvvvvv", "1234567890"} {
				checkNone(t, k.id+string(first)+rest)
			}
		}
	}
}

// P10.2: State of both kinds, and Seq of what it tells.
func TestState(t *testing.T) {
	for _, x := range []struct {
		n      int64
		digits string
	}{
		{0, "0"}, {1, "1"}, {7, "7"}, {9, "9"}, {10, "10"}, {11, "11"}, {19, "19"}, {35, "35"}, {99, "99"}, {100, "100"}, {101, "101"}, {1000, "1000"}, {65536, "65536"},
		{2147483648, "2147483648"}, {4294967296, "4294967296"}, {4294967297, "4294967297"}, {1234567890123456, "1234567890123456"}, {9000000000000000, "9000000000000000"},
		{9007199254740990, "9007199254740990"}, {9007199254740991, "9007199254740991"},
	} {
		checkState(t, api.Card, x.n, "c"+x.digits)
		checkState(t, api.Book, x.n, "b"+x.digits)
		checkSeq(t, api.Card, "c"+x.digits, x.n, api.OK)
		checkSeq(t, api.Book, "b"+x.digits, x.n, api.OK)
		// A state of the other kind, and one of neither.
		checkSeq(t, api.Card, "b"+x.digits, 0, api.ErrState)
		checkSeq(t, api.Book, "c"+x.digits, 0, api.ErrState)
		for _, kind := range noKinds {
			checkSeq(t, kind, "c"+x.digits, 0, api.ErrState)
			checkSeq(t, kind, "b"+x.digits, 0, api.ErrState)
		}
		checkFault(t, x.digits, "C"+x.digits, "B"+x.digits, "x"+x.digits, "d"+x.digits, "a"+x.digits, "\x00"+x.digits, "\x01"+x.digits, "\x02"+x.digits, "cb"+x.digits, "bc"+x.digits, "cc"+x.digits, "bb"+x.digits)
	}
}

// P10.2: Seq of what is a state for neither kind.
func TestSeqOfFaults(t *testing.T) {
	checkFault(t, "", "c", "b", "C", "B", "0", "-", " ", "\x00", "\xff", "\u00e9", "null", "state", "C00000000013", "B00000000013")
	for _, letter := range []string{"c", "b"} {
		for _, digits := range []string{
			"00", "01", "07", "09", "000", "0000000001", "00000000013", "09007199254740991", // a 0 ahead
			"-0", "-1", "-7", "-01", "-9007199254740991", "-9007199254740992", "-9223372036854775808", "+0", "+1", "+9", "--1", "-", "+", // a sign
			" 1", "1 ", " ", " 1 ", "\t1", "1\t", "1\n", "\n1", "1\r", "1\r\n", "1\v", "1\f", "1 2", "\u00a01", "1\u00a0", // white space
			"9007199254740992", "9007199254740993", "9007199254741000", "9999999999999999", "10000000000000000", // above MaxSafe
			"9223372036854775807", "9223372036854775808", "18446744073709551615", "18446744073709551616", "18446744073709551617", "36893488147419103233", "99999999999999999999999", // far above
			"340282366920938463463374607431768211457", "1" + strings.Repeat("0", 1000), strings.Repeat("9", 1000), strings.Repeat("7", 1<<20), strings.Repeat("0", 1<<20),
			"1x", "0x", "0x1", "1_0", "1,", "1.", "1.0", "0.0", ".5", "1e0", "1e1", "1E2", "0e0", "1\x00", "1\xff", "1a", "av", "1c", "1b", "1-", "1+", "1]", "1\"", "12 34", "7\u00e9", // something behind them
			"a", "v", "x", "\x00", "\xff", "\u0663", "\uff11", "\xb9", "\x001", "\xff1", "null", "Infinity", "NaN", // other bytes
		} {
			checkFault(t, letter+digits)
		}
	}
	checkFault(t, " c1", "\nc1", " b1", "\x00c1", "1c", "1b", "c c1", "\ufeffc1", "\u04411")
}

// P10.1 and P10.2: each byte at each place of ids, states and the like.
func TestAllBytes(t *testing.T) {
	for c := range 256 {
		b := string([]byte{byte(c)})
		for _, s := range []string{"", "c", "b", "c0", "b0", "c1", "b7", "c10", "b9007199254740991", "c900719925474099", "C00000000013", "B0000000000", "B7vvvvvvvvvv", "C8vvvvvvvvv", "-_"} {
			for at := range len(s) + 1 {
				checkText(t, s[:at]+b+s[at:])
				if at < len(s) {
					checkText(t, s[:at]+b+s[at+1:])
				}
			}
		}
	}
}

// P10.1 and P10.2: texts by chance, of bytes that ids and states are made of
// and others.
func TestByChance(t *testing.T) {
	random := rand.New(rand.NewSource(102))
	const bytes = "CBcb00000011123456789avwAVZz-_ .\x00\xff"
	told := map[string]int{}
	for range 200000 {
		s := make([]byte, random.Intn(20))
		from := []int{4, 13, 24, len(bytes)}[random.Intn(4)]
		for i := range s {
			s[i] = bytes[random.Intn(from)]
		}
		if len(s) > 0 && random.Intn(2) == 0 {
			s[0] = bytes[random.Intn(4)]
			for i := range s[1:] {
				s[i+1] = bytes[4+random.Intn(18)]
			}
		}
		text := string(s)
		checkText(t, text)
		if isOf(text) {
			told["id"]++
		}
		if _, _, ok := numberOf(text); ok {
			told["number"]++
		}
		for _, k := range kinds {
			if _, e := seqOf(k.kind, text); e == api.OK {
				told["state"]++
			}
		}
	}
	for _, x := range []string{"id", "number", "state"} {
		if told[x] < 1000 {
			t.Errorf("told: %v", told)
		}
	}
}

// P10.3: Number and Seq tell what Make and State were given, and ids are ids.
func TestBack(t *testing.T) {
	eachNumber(func(n int64) { checkBack(t, n) })
	for _, x := range known {
		checkBack(t, x.n)
	}
	for n := int64(api.MaxSafe - 70000); n <= api.MaxSafe+70000; n += 7 {
		checkBack(t, n)
	}
}

// P10.3: what Number and Seq tell is what Make and State are to be given.
func TestForth(t *testing.T) {
	random := rand.New(rand.NewSource(103))
	const digits = "0123456789abcdefghijklmnopqrstuvwxyzAV"
	found := 0
	for range 200000 {
		s := []byte{"CB"[random.Intn(2)]}
		for range 11 {
			s = append(s, digits[random.Intn([]int{8, 32, len(digits)}[random.Intn(12)/5])])
		}
		kind, n, ok := ident.Number(string(s))
		if !ok {
			checkNumber(t, string(s), 0, 0, false)
			continue
		}
		found++
		checkMake(t, kind, n, string(s))
	}
	if found < 1000 {
		t.Errorf("%d texts were ids of numbers", found)
	}
	for _, s := range []string{"0", "1", "9", "10", "4711", "9007199254740991"} {
		for _, k := range kinds {
			n, e := ident.Seq(k.kind, k.state+s)
			if e != api.OK || ident.State(k.kind, n) != k.state+s {
				t.Errorf("Seq(%d, %q) = %d, %d", k.kind, k.state+s, n, e)
			}
		}
	}
}

// P10.3: ids of a kind rise, byte by byte, as their numbers do.
func TestRising(t *testing.T) {
	var numbers []int64
	eachNumber(func(n int64) {
		if 0 <= n && n <= api.MaxSafe {
			numbers = append(numbers, n)
		}
	})
	slices.Sort(numbers)
	numbers = slices.Compact(numbers)
	for _, k := range kinds {
		for i, n := range numbers[1:] {
			if a, b := ident.Make(k.kind, numbers[i]), ident.Make(k.kind, n); a >= b || len(a) != len(b) {
				t.Fatalf("%d has the id %q, %d has %q", numbers[i], a, n, b)
			}
		}
	}
	// No id of the one kind is one of the other, nor a state.
	for _, n := range numbers[:1000] {
		a, b := ident.Make(api.Card, n), ident.Make(api.Book, n)
		if a == b || a[1:] != b[1:] {
			t.Fatalf("%d has the ids %q and %q", n, a, b)
		}
		checkFault(t, a, b)
		checkNone(t, ident.State(api.Card, n), ident.State(api.Book, n))
	}
}

// The section 'Examples'.
func TestExamples(t *testing.T) {
	checkMake(t, api.Card, 35, "C00000000013")
	checkNumber(t, "C00000000013", api.Card, 35, true)
	checkState(t, api.Book, 7, "b7")
	checkSeq(t, api.Book, "b7", 7, api.OK)
	checkSeq(t, api.Book, "b07", 0, api.ErrState)
	checkSeq(t, api.Card, "b7", 0, api.ErrState)
}
