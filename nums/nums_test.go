package nums_test

import (
	"math"
	"math/big"
	"regexp"
	"strconv"
	"strings"
	"testing"

	"cardbox/api"
	"cardbox/nums"
)

// numbers are numbers from -MaxSafe to MaxSafe, each with its digits.
var numbers = []struct {
	n      int64
	digits string
}{
	{0, "0"}, {1, "1"}, {5, "5"}, {9, "9"}, {-1, "-1"}, {-5, "-5"}, {-9, "-9"},
	{10, "10"}, {12, "12"}, {99, "99"}, {100, "100"}, {101, "101"}, {-10, "-10"}, {-99, "-99"}, {-100, "-100"},
	{1000000, "1000000"}, {-1000000, "-1000000"}, {1002003, "1002003"}, {-1002003, "-1002003"},
	{1234567890, "1234567890"}, {-9876543210, "-9876543210"},
	{2147483647, "2147483647"}, {2147483648, "2147483648"}, {-2147483648, "-2147483648"}, {-2147483649, "-2147483649"},
	{4294967295, "4294967295"}, {4294967296, "4294967296"},
	{999999999999999, "999999999999999"}, {1000000000000000, "1000000000000000"},
	{9007199254740990, "9007199254740990"}, {-9007199254740990, "-9007199254740990"},
	{9007199254740991, "9007199254740991"}, {-9007199254740991, "-9007199254740991"},
}

// beyond are numbers of 64 bits beyond MaxSafe, with either sign.
var beyond = []struct {
	n      int64
	digits string
}{
	{9007199254740992, "9007199254740992"}, {-9007199254740992, "-9007199254740992"},
	{9007199254740993, "9007199254740993"}, {-9007199254740993, "-9007199254740993"},
	{9007199254741000, "9007199254741000"}, {-9007199254741000, "-9007199254741000"},
	{10000000000000000, "10000000000000000"}, {-10000000000000000, "-10000000000000000"},
	{1000000000000000000, "1000000000000000000"}, {-1000000000000000000, "-1000000000000000000"},
	{9223372036854775806, "9223372036854775806"}, {-9223372036854775807, "-9223372036854775807"},
	{9223372036854775807, "9223372036854775807"}, {-9223372036854775808, "-9223372036854775808"},
}

// tooMany are digits that no 64 bits with a sign hold; those of 2^64 and of
// some beyond it would be small ones, if the upper bits were lost.
var tooMany = []string{
	"9223372036854775808", "-9223372036854775809", "9999999999999999999", "10000000000000000000",
	"18446744073709551615", "18446744073709551616", "-18446744073709551616", "18446744073709551617",
	"18446744073709551658", "-18446744073709551658", "36893488147419103233", "99999999999999999999999",
	"340282366920938463463374607431768211456", "340282366920938463463374607431768211457",
	"1" + strings.Repeat("0", 100), "-1" + strings.Repeat("0", 100),
	strings.Repeat("9", 1000), "-" + strings.Repeat("9", 1000),
	"1" + strings.Repeat("0", 1<<20), strings.Repeat("7", 1<<20),
}

// behind are what may stand right behind a number.
var behind = []string{
	"", " ", "\t", "\n", "\r", ",", "]", "}", ":", "\"", "-", "-1", "+", "x", "a", "f", "d", "D", "F", "_", "'", "/",
	"\x00", "\x80", "\xb0", "\xc3\xa9", "\xd9\xa3", "\xef\xbc\x91", "\xff", " 1", " .", " e", "-e", ",.5",
}

// ahead are what may stand ahead of a number.
var ahead = []string{"", "x", "1", "-", "0", ".", "1e", "[", "\xff", " -", "12,"}

// form is a number's digits, and a byte behind them or the end.
var form = regexp.MustCompile(`^(-?(?:0|[1-9][0-9]*))(?:[^0-9.eE]|$)`)

// isNumber tells, by the library, whether digits are of a number of the chapter.
func isNumber(digits string) bool {
	n, ok := new(big.Int).SetString(digits, 10)
	return ok && n.CmpAbs(big.NewInt(1<<53)) < 0
}

// readOf is what Read ought to tell, by the library.
func readOf(s string, at int) (int64, int, api.Errno) {
	if at < 0 || at > len(s) {
		return 0, at, api.ErrNumber
	}
	m := form.FindStringSubmatch(latin(s[at:]))
	if m == nil || !isNumber(m[1]) {
		return 0, at, api.ErrNumber
	}
	n, _ := strconv.ParseInt(m[1], 10, 64)
	return n, at + len(m[1]), api.OK
}

// allOf is what All ought to tell, by the library.
func allOf(s string) (int64, bool) {
	n, err := strconv.ParseInt(s, 10, 64)
	if err != nil || strconv.FormatInt(n, 10) != s || !isNumber(s) {
		return 0, false
	}
	return n, true
}

// latin makes a point of each byte, for the library tells points apart.
func latin(s string) string {
	l := make([]rune, len(s))
	for i := range len(s) {
		l[i] = rune(s[i])
	}
	return string(l)
}

// checkPut holds Put against the digits that are wanted.
func checkPut(t *testing.T, n int64, digits string) {
	t.Helper()
	if s := nums.Put(n); s != digits {
		t.Fatalf("Put(%d) = %q; want %q", n, s, digits)
	}
}

// checkRead holds Read against what is wanted.
func checkRead(t *testing.T, s string, at int, n int64, place int, e api.Errno) {
	t.Helper()
	if gotN, gotPlace, got := nums.Read(s, at); gotN != n || gotPlace != place || got != e {
		t.Fatalf("Read(%.60q, %d) = %d, %d, %d; want %d, %d, %d", s, at, gotN, gotPlace, got, n, place, e)
	}
}

// checkFault holds Read against a fault at once, and behind other bytes, and
// All against false.
func checkFault(t *testing.T, s string) {
	t.Helper()
	for _, a := range ahead {
		checkRead(t, a+s, len(a), 0, len(a), api.ErrNumber)
	}
	checkAll(t, s, 0, false)
}

// checkAll holds All against what is wanted.
func checkAll(t *testing.T, s string, n int64, ok bool) {
	t.Helper()
	if gotN, got := nums.All(s); gotN != n || got != ok {
		t.Fatalf("All(%.60q) = %d, %t; want %d, %t", s, gotN, got, n, ok)
	}
}

// checkText holds Read, from each place and those beside the text, and All
// against the library.
func checkText(t *testing.T, s string) {
	t.Helper()
	for at := -1; at <= len(s)+1; at++ {
		n, place, e := readOf(s, at)
		checkRead(t, s, at, n, place, e)
	}
	n, ok := allOf(s)
	checkAll(t, s, n, ok)
}

// checkBack puts a number and reads it back.
func checkBack(t *testing.T, n int64) {
	t.Helper()
	s := strconv.FormatInt(n, 10)
	checkPut(t, n, s)
	if n < -api.MaxSafe || n > api.MaxSafe {
		checkRead(t, s, 0, 0, 0, api.ErrNumber)
		checkAll(t, s, 0, false)
		return
	}
	checkRead(t, s, 0, n, len(s), api.OK)
	checkAll(t, s, n, true)
}

// eachText calls f with all texts of n bytes of those of from.
func eachText(from string, n int, f func(string)) {
	if n == 0 {
		f("")
		return
	}
	eachText(from, n-1, func(s string) {
		for i := range len(from) {
			f(s + from[i:i+1])
		}
	})
}

// eachNumber calls f with numbers of all lengths and both signs: around powers
// of 2 and of 10, all small ones, and some from a row without an order.
func eachNumber(f func(int64)) {
	for n := int64(-100000); n <= 100000; n++ {
		f(n)
	}
	for i := range 64 {
		for d := int64(-20); d <= 20; d++ {
			f(int64(uint64(1)<<i) + d)
			f(-int64(uint64(1)<<i) + d)
		}
	}
	for power := int64(1); power <= math.MaxInt64/10; power *= 10 {
		for m := int64(1); m <= 9; m++ {
			for d := int64(-2); d <= 2; d++ {
				f(power*m + d)
				f(-power*m + d)
			}
		}
	}
	row := uint64(1)
	for i := range 100000 {
		row = row*6364136223846793005 + 1442695040888963407
		f(int64(row) >> (i % 64))
	}
}

// P3.1: Put of numbers of one digit and of many, on both sides of 0, and of
// the least and the greatest of 64 bits.
func TestPut(t *testing.T) {
	for _, x := range numbers {
		checkPut(t, x.n, x.digits)
	}
	for _, x := range beyond {
		checkPut(t, x.n, x.digits)
	}
	checkPut(t, math.MinInt64, "-9223372036854775808")
	checkPut(t, math.MaxInt64, "9223372036854775807")
}

// P3.1: Put of numbers of all lengths.
func TestPutOfMany(t *testing.T) {
	eachNumber(func(n int64) { checkPut(t, n, strconv.FormatInt(n, 10)) })
}

// P3.2: Read of numbers, whatever stands ahead of them and behind them.
func TestRead(t *testing.T) {
	for _, x := range numbers {
		for _, a := range ahead {
			for _, b := range behind {
				checkRead(t, a+x.digits+b, len(a), x.n, len(a)+len(x.digits), api.OK)
			}
		}
	}
	checkRead(t, "x-12,", 1, -12, 4, api.OK)
	checkRead(t, "x-12,", 2, 12, 4, api.OK)
	checkRead(t, "x-12,", 3, 2, 4, api.OK)
	checkRead(t, "100", 0, 100, 3, api.OK)
	checkRead(t, "100", 2, 0, 3, api.OK)
	checkRead(t, "1-0", 0, 1, 1, api.OK)
	checkRead(t, "1-0", 1, 0, 3, api.OK)
	checkRead(t, "0-", 0, 0, 1, api.OK)
	checkRead(t, "0x10", 0, 0, 1, api.OK)
	checkRead(t, "1_000", 0, 1, 1, api.OK)
	checkRead(t, "1,000", 0, 1, 1, api.OK)
}

// P3.2: -0 is 0.
func TestReadOfNoughtBelow(t *testing.T) {
	for _, b := range behind {
		checkRead(t, "-0"+b, 0, 0, 2, api.OK)
		checkRead(t, "x-0"+b, 1, 0, 3, api.OK)
	}
	checkFault(t, "-00")
	checkFault(t, "-0.")
	checkFault(t, "-0e")
	checkFault(t, "-0E0")
}

// P3.2: where no digit stands.
func TestReadWithoutDigit(t *testing.T) {
	for _, s := range []string{
		"", "-", "--", "--1", "- 1", "-x", "-.5", "-e1", "-+1", "+", "+1", "+-1", ".", ".5", "e", "e1", "E1",
		" 1", "\n1", "\t-1", "x", "x1", "a", "null", "\"1\"", "[1]", ",1", "_1", "\x001", "\xff1", "-\xff1",
		"/", ":", "-/", "-:", "\xb0", "\xb9", "\xd9\xa3", "\xef\xbc\x91", "-\xef\xbc\x91", "\xe2\x88\x921",
		"Infinity", "-Infinity", "NaN",
	} {
		checkFault(t, s)
	}
}

// P3.2: a 0 with another digit behind it.
func TestReadOfNoughtAhead(t *testing.T) {
	for _, s := range []string{
		"00", "01", "09", "-01", "-09", "007", "-007", "000", "0000000001", "00 ", "01,", "0123]",
		"00.", "01.5", "00e", "09007199254740991", "-09007199254740991", "018446744073709551616",
		strings.Repeat("0", 1000), strings.Repeat("0", 1000) + "1", "-" + strings.Repeat("0", 1000),
	} {
		checkFault(t, s)
	}
}

// P3.2: a ., e or E right behind the digits.
func TestReadOfParts(t *testing.T) {
	for _, x := range numbers {
		for _, b := range []string{".", ".0", ".5", ".,", "e", "e1", "e+1", "e-1", "e,", "E", "E1", "E+1", "E-1", "E]", ".5e3", "..", "ee"} {
			checkFault(t, x.digits+b)
		}
	}
}

// P3.2: numbers that aren't from -MaxSafe to MaxSafe.
func TestReadBeyond(t *testing.T) {
	for _, x := range beyond {
		for _, b := range behind {
			checkRead(t, x.digits+b, 0, 0, 0, api.ErrNumber)
		}
		checkFault(t, x.digits)
	}
	for _, s := range tooMany {
		checkFault(t, s)
		checkFault(t, s+",")
		checkFault(t, s+".")
	}
	checkRead(t, "99999999999999999999999", 8, 999999999999999, 23, api.OK)
}

// P3.2: places without the text, and those within it.
func TestReadWithoutTheText(t *testing.T) {
	for _, s := range []string{"", "0", "7", "-", "-7", "123", "9007199254740991", "x", "\xff"} {
		for _, at := range []int{-1, -2, -len(s) - 1, math.MinInt, math.MinInt + 1, len(s), len(s) + 1, math.MaxInt - 1, math.MaxInt} {
			checkRead(t, s, at, 0, at, api.ErrNumber)
		}
	}
	for at, n := range []int64{-120, 120, 20, 0} {
		checkRead(t, "-120", at, n, 4, api.OK)
	}
}

// P3.2 and P3.3: each byte ahead of, within and behind a number.
func TestAllBytes(t *testing.T) {
	for c := range 256 {
		b := string([]byte{byte(c)})
		for _, s := range []string{
			b, b + "1", "-" + b, "-" + b + "1", "1" + b, "1" + b + "1", "0" + b, "0" + b + "0", "-0" + b, "-1" + b,
			"12" + b + "34", "9007199254740991" + b, "900719925474099" + b, "-900719925474099" + b, "90071992547409" + b + "1",
		} {
			checkText(t, s)
		}
	}
}

// P3.2, P3.3 and P1: all texts of some bytes, from all places.
func TestAllTexts(t *testing.T) {
	for n := range 5 {
		eachText("0129-+.eE, x\xff", n, func(s string) { checkText(t, s) })
	}
	for n := range 7 {
		eachText("01-.e", n, func(s string) { checkText(t, s) })
	}
}

// P3.3: the whole text is a number's digits.
func TestAll(t *testing.T) {
	for _, x := range numbers {
		checkAll(t, x.digits, x.n, true)
	}
}

// P3.3: the whole text is none.
func TestAllOfNone(t *testing.T) {
	checkAll(t, "-0", 0, false)
	for _, s := range []string{
		"", "-", "-00", "00", "01", "-01", "+0", "+1", "--1", "1-", "1.", "1.0", "1e2", "1E2", "0e0",
		" 1", "1 ", "\n1", "1\n", "1\x00", "\x001", "1,", "12]", "1 2", "1_000", "1,000", "0x1", "0b1", "x", "null",
		"-0 ", " -0", "\xd9\xa3", "\xef\xbc\x91", "1\xff", "9007199254740991 ",
	} {
		checkAll(t, s, 0, false)
	}
	for _, x := range numbers {
		for _, b := range behind[1:] {
			checkAll(t, x.digits+b, 0, false)
			checkText(t, b+x.digits)
		}
	}
	for _, x := range beyond {
		checkAll(t, x.digits, 0, false)
	}
	for _, s := range tooMany {
		checkAll(t, s, 0, false)
	}
}

// P3.4: All and Read of Put of numbers are these; of others there is none.
func TestThereAndBack(t *testing.T) {
	eachNumber(func(n int64) { checkBack(t, n) })
	for d := range int64(1000) {
		checkBack(t, api.MaxSafe-500+d)
		checkBack(t, -api.MaxSafe+500-d)
	}
	checkBack(t, math.MaxInt64)
	checkBack(t, math.MinInt64)
}

// P3.4: what All tells is put as the text was.
func TestBackAndThere(t *testing.T) {
	for n := range 6 {
		eachText("0179-+. ", n, func(s string) {
			if n, ok := nums.All(s); ok && nums.Put(n) != s {
				t.Fatalf("All(%q) = %d, which is put %q", s, n, nums.Put(n))
			}
		})
	}
}
