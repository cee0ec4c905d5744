package stamp_test

import (
	"math"
	"math/rand"
	"regexp"
	"slices"
	"strconv"
	"strings"
	"testing"
	"time"

	"cardbox/stamp"
)

// The first and the last second of the years 0 to 9999.
const (
	first = -62167219200
	last  = 253402300799
)

// form is the form of stamps, whatever their parts are.
var form = regexp.MustCompile(`^([0-9]{4})-([0-9]{2})-([0-9]{2})T([0-9]{2}):([0-9]{2}):([0-9]{2})(?:\.([0-9]{0,8}[1-9]))?Z$`)

// known are stamps with their seconds.
var known = []struct {
	s string
	n int64
}{
	{"1970-01-01T00:00:00Z", 0}, {"1970-01-01T00:00:01Z", 1}, {"1970-01-01T00:00:59Z", 59}, {"1970-01-01T00:01:00Z", 60}, {"1970-01-01T00:59:59Z", 3599},
	{"1970-01-01T01:00:00Z", 3600}, {"1970-01-01T23:59:59Z", 86399}, {"1970-01-02T00:00:00Z", 86400}, {"1970-01-02T00:00:01Z", 86401},
	{"1970-01-31T00:00:00Z", 2592000}, {"1970-02-01T00:00:00Z", 2678400}, {"1971-01-01T00:00:00Z", 31536000},
	{"1969-12-31T23:59:59Z", -1}, {"1969-12-31T23:59:00Z", -60}, {"1969-12-31T00:00:00Z", -86400}, {"1969-12-30T23:59:59Z", -86401}, {"1969-01-01T00:00:00Z", -31536000},
	{"1972-02-29T00:00:00Z", 68169600}, {"2000-02-28T00:00:00Z", 951696000}, {"2000-02-29T00:00:00Z", 951782400}, {"2000-02-29T12:30:45Z", 951827445}, {"2000-03-01T00:00:00Z", 951868800},
	{"2001-09-09T01:46:40Z", 1000000000}, {"2009-02-13T23:31:30Z", 1234567890}, {"2038-01-19T03:14:07Z", 1<<31 - 1}, {"2038-01-19T03:14:08Z", 1 << 31}, {"1901-12-13T20:45:52Z", -1 << 31},
	{"2106-02-07T06:28:15Z", 1<<32 - 1}, {"2106-02-07T06:28:16Z", 1 << 32}, {"1900-02-28T23:59:59Z", -2203891201}, {"1900-03-01T00:00:00Z", -2203891200},
	{"0000-01-01T00:00:00Z", first}, {"0000-01-01T00:00:01Z", first + 1}, {"0000-12-31T23:59:59Z", first + 366*86400 - 1}, {"0001-01-01T00:00:00Z", first + 366*86400},
	{"9999-12-31T23:59:58Z", last - 1}, {"9999-12-31T23:59:59Z", last},
}

// isLeap tells whether a year is a leap year, by the library.
func isLeap(year int64) bool {
	return time.Date(int(year), 12, 31, 0, 0, 0, 0, time.UTC).YearDay() == 366
}

// lastDay is the last day of a month, by the library.
func lastDay(year, month int64) int64 {
	return int64(time.Date(int(year), time.Month(month+1), 0, 0, 0, 0, 0, time.UTC).Day())
}

// daysOf is what Days ought to tell, by the library.
func daysOf(year, month, day int64) (int64, bool) {
	if year < 0 || year > 9999 || month < 1 || month > 12 || day < 1 || day > lastDay(year, month) {
		return 0, false
	}
	return time.Date(int(year), time.Month(month), int(day), 0, 0, 0, 0, time.UTC).Unix() / 86400, true
}

// latin makes a point of each byte, for the library tells points apart.
func latin(s string) string {
	l := make([]rune, len(s))
	for i := range len(s) {
		l[i] = rune(s[i])
	}
	return string(l)
}

// secondsOf is what Seconds ought to tell, by the library.
func secondsOf(s string) (int64, bool) {
	m := form.FindStringSubmatch(latin(s))
	if m == nil {
		return 0, false
	}
	var p [7]int
	for i := 1; i < 7; i++ {
		p[i], _ = strconv.Atoi(m[i])
	}
	at := time.Date(p[1], time.Month(p[2]), p[3], p[4], p[5], p[6], 0, time.UTC)
	// The library takes what is too much over into the part ahead.
	if at.Format("2006-01-02T15:04:05") != s[:19] {
		return 0, false
	}
	return at.Unix(), true
}

// makeOf is what Make ought to tell, by the library.
func makeOf(n int64) string {
	if n < first || n > last {
		return ""
	}
	return time.Unix(n, 0).UTC().Format("2006-01-02T15:04:05Z")
}

// compareOf is what Compare ought to tell, by the library: of stamps by their
// seconds, then by billionths of them.
func compareOf(a, b string) int {
	secondsA, isA := secondsOf(a)
	secondsB, isB := secondsOf(b)
	switch {
	case isA && isB:
		return time.Unix(secondsA, billionths(a)).Compare(time.Unix(secondsB, billionths(b)))
	case isA:
		return 1
	case isB:
		return -1
	}
	return slices.Compare([]byte(a), []byte(b))
}

// billionths is what stands behind a stamp's point, in billionths of a second.
func billionths(s string) int64 {
	digits := form.FindStringSubmatch(s)[7]
	n, _ := strconv.ParseInt(digits+strings.Repeat("0", 9-len(digits)), 10, 64)
	return n
}

// checkStamp holds Is and Seconds of a stamp against what is wanted.
func checkStamp(t *testing.T, s string, n int64) {
	t.Helper()
	if got, ok := stamp.Seconds(s); got != n || !ok || !stamp.Is(s) {
		t.Fatalf("Seconds(%q) = %d, %t, Is %t; want %d", s, got, ok, stamp.Is(s), n)
	}
}

// checkNone holds Is and Seconds of texts against false.
func checkNone(t *testing.T, texts ...string) {
	t.Helper()
	for _, s := range texts {
		if got, ok := stamp.Seconds(s); got != 0 || ok || stamp.Is(s) {
			t.Fatalf("Seconds(%.60q) = %d, %t, Is %t; it is none", s, got, ok, stamp.Is(s))
		}
	}
}

// checkText holds Is and Seconds of a text against the library.
func checkText(t *testing.T, s string) {
	t.Helper()
	if n, ok := secondsOf(s); ok {
		checkStamp(t, s, n)
	} else {
		checkNone(t, s)
	}
}

// checkDays holds Days against the library, and Is and Seconds of that day's
// stamps, if its numbers have as many digits as a stamp has.
func checkDays(t *testing.T, year, month, day int64) {
	t.Helper()
	n, ok := daysOf(year, month, day)
	if got, gotOk := stamp.Days(year, month, day); got != n || gotOk != ok {
		t.Fatalf("Days(%d, %d, %d) = %d, %t; want %d, %t", year, month, day, got, gotOk, n, ok)
	}
	if year < 0 || year > 9999 || month < 0 || month > 99 || day < 0 || day > 99 {
		return
	}
	s := digits(year, 4) + "-" + digits(month, 2) + "-" + digits(day, 2)
	if !ok {
		checkNone(t, s+"T00:00:00Z", s+"T23:59:59Z", s+"T12:34:56.789Z")
		return
	}
	checkStamp(t, s+"T00:00:00Z", n*86400)
	checkStamp(t, s+"T23:59:59Z", n*86400+86399)
	checkStamp(t, s+"T12:34:56.789Z", n*86400+45296)
}

// digits are those of a number, with noughts ahead to be so many.
func digits(n int64, many int) string {
	s := strconv.FormatInt(n, 10)
	return strings.Repeat("0", max(0, many-len(s))) + s
}

// checkMake holds Make against what is wanted.
func checkMake(t *testing.T, n int64, want string) {
	t.Helper()
	if got := stamp.Make(n); got != want {
		t.Fatalf("Make(%d) = %q; want %q", n, got, want)
	}
}

// checkBack makes the stamp of seconds, and tells their number from it.
func checkBack(t *testing.T, n int64) {
	t.Helper()
	want := makeOf(n)
	checkMake(t, n, want)
	if want != "" {
		checkStamp(t, want, n)
	}
}

// checkCompare holds Compare, both ways round, against what is wanted.
func checkCompare(t *testing.T, a, b string, want int) {
	t.Helper()
	if got, back := stamp.Compare(a, b), stamp.Compare(b, a); got != want || back != -want {
		t.Fatalf("Compare(%.60q, %.60q) = %d, back %d; want %d", a, b, got, back, want)
	}
}

// checkRising holds Compare of texts that rise, each with each and itself.
func checkRising(t *testing.T, texts ...string) {
	t.Helper()
	for i, a := range texts {
		checkCompare(t, a, strings.Clone(a), 0)
		for _, b := range texts[i+1:] {
			checkCompare(t, a, b, -1)
		}
	}
}

// eachSecond calls f with seconds of all times: around the ends of all years,
// around powers of 2, the ends of days and hours, and by chance.
func eachSecond(f func(int64)) {
	for year := range 10001 {
		n := time.Date(year, 1, 1, 0, 0, 0, 0, time.UTC).Unix()
		for _, d := range []int64{-86401, -86400, -61, -60, -2, -1, 0, 1, 59, 60, 3599, 3600, 86399, 86400} {
			f(n + d)
		}
	}
	for i := range 63 {
		for d := int64(-2); d <= 2; d++ {
			f(1<<i + d)
			f(-1<<i + d)
		}
	}
	for n := int64(-100000); n <= 100000; n += 7 {
		f(n)
	}
	random := rand.New(rand.NewSource(111))
	for range 100000 {
		f(first + random.Int63n(last-first+1))
	}
}

// P11.1 and P11.2: what is known.
func TestKnown(t *testing.T) {
	for _, x := range known {
		checkStamp(t, x.s, x.n)
		checkMake(t, x.n, x.s)
		up := x.s[:19]
		for _, behind := range []string{".1", ".9", ".05", ".001", ".999999999", ".000000001"} {
			checkStamp(t, up+behind+"Z", x.n)
		}
	}
}

// P11.1: texts of all lengths, of the bytes of stamps and of others.
func TestLengths(t *testing.T) {
	const whole = "2024-05-06T07:08:09.123456789Z"
	checkNone(t, "")
	for n := range whole {
		checkNone(t, whole[:n], whole[n+1:])
		checkText(t, whole[:n]+whole[n+1:])
		if n < 19 {
			checkNone(t, whole[:n]+"Z")
		}
		for _, b := range []string{"0", " ", "Z", "\x00", "-", "+"} {
			checkNone(t, strings.Repeat(b, n))
		}
	}
	checkStamp(t, whole[:19]+"Z", 1714979289) // 20 bytes
	checkNone(t, whole[:20]+"Z")              // 21 bytes, of which one is the point
	for n := 21; n <= 29; n++ {
		checkStamp(t, whole[:n]+"Z", 1714979289) // 22 to 30 bytes
	}
	checkNone(t, whole[:29]+"1Z", whole[:29]+"12Z", whole+"Z", whole[:29]+strings.Repeat("1", 1<<20)+"Z")
	checkNone(t, "2024-05-06T07:08:09", "2024-05-06T07:08:0Z", "2024-05-06", "T07:08:09Z", "07:08:09Z", "2024-05-06Z", "2024-05-06T07:08Z", "024-05-06T07:08:09Z", "24-05-06T07:08:09Z", "02024-05-06T07:08:09Z", "12024-05-06T07:08:09Z", "-2024-05-06T07:08:09Z", "+2024-05-06T07:08:09Z", "2024-5-06T07:08:09Z", "2024-05-6T07:08:09Z", "2024-5-6T7:8:9Z", "2024-005-06T07:08:09Z", "20240506T070809Z", "2024-05-06T07:08:09:10Z", "2024-127T07:08:09Z", "2024-W19-1T07:08:09Z")
	for _, n := range []int{1 << 16, 1 << 20} {
		checkNone(t, strings.Repeat("0", n), "2024-05-06T07:08:09Z"+strings.Repeat(" ", n), strings.Repeat("2024-05-06T07:08:09Z", n/20))
	}
}

// P11.1: each byte at each place of stamps, in place of the one there and
// beside it.
func TestBytes(t *testing.T) {
	for _, s := range []string{"2024-05-06T07:08:09Z", "0000-01-01T00:00:00.5Z", "9999-12-31T23:59:59.123456789Z", "1999-11-11T11:11:11.01Z"} {
		for at := range len(s) + 1 {
			for c := range 256 {
				b := string([]byte{byte(c)})
				checkText(t, s[:at]+b+s[at:])
				if at < len(s) {
					checkText(t, s[:at]+b+s[at+1:])
				}
			}
		}
	}
}

// P11.1: other bytes in place of each sign.
func TestSigns(t *testing.T) {
	const s = "2024-05-06T07:08:09.5Z"
	for at, others := range map[int]string{
		4: "/.:_ 0+\xad\x80\x00", 7: "/.:_ 0+\xad\x80\x00", 10: "t _0Z\n\xd4\x80\x00", 13: ";.- 0\xba\x80\x00", 16: ";.- 0\xba\x80\x00",
		19: ",: ;0Z\xae\x80\x00", 21: "z0 zA\n\xda\x80\x00",
	} {
		for _, b := range []byte(others) {
			checkNone(t, s[:at]+string([]byte{b})+s[at+1:])
		}
	}
	checkNone(t, "2024-05-06t07:08:09Z", "2024-05-06 07:08:09Z", "2024-05-06T07:08:09z", "2024-05-06t07:08:09z", "2024\u201005\u201006T07:08:09Z", "2024-05-06T07:08:09\u007f", "2024-05-06\uff3407:08:09Z")
}

// P11.1: what is no digit at each place of a digit.
func TestDigits(t *testing.T) {
	const s = "2024-05-06T07:08:09.123456789Z"
	for at, c := range s {
		if c < '0' || c > '9' {
			continue
		}
		for _, b := range []string{"/", ":", "+", "-", " ", ".", "T", "Z", "a", "x", "_", ",", "\t", "\n", "\x00", "\x0f", "\x10", "\x7f", "\x80", "\xb0", "\xb5", "\xff", "\u00b2", "\u0663", "\uff13"} {
			if b != "Z" || at < 21 {
				checkNone(t, s[:at]+b+s[at+1:])
			}
		}
	}
	checkNone(t, "+024-05-06T07:08:09Z", "-024-05-06T07:08:09Z", " 024-05-06T07:08:09Z", "2024-+5-06T07:08:09Z", "2024--5-06T07:08:09Z", "2024- 5-06T07:08:09Z", "2024-05--6T07:08:09Z", "2024-05-06T+7:08:09Z", "2024-05-06T07:-8:09Z", "2024-05-06T07:08: 9Z", "0x24-05-06T07:08:09Z", "2_24-05-06T07:08:09Z", "1e03-05-06T07:08:09Z")
}

// P11.1: months and days at the ends of what they may be, of all kinds of
// years; and days in all places that are none.
func TestDays(t *testing.T) {
	for _, year := range []int64{-400, -4, -1, 0, 1, 3, 4, 99, 100, 101, 104, 399, 400, 401, 800, 1600, 1700, 1800, 1900, 1904, 1969, 1970, 1971, 1972, 1999, 2000, 2001, 2023, 2024, 2100, 2400, 9600, 9900, 9996, 9998, 9999, 10000, 10001, 10400, 99999} {
		for month := int64(-1); month <= 14; month++ {
			for day := int64(-1); day <= 33; day++ {
				checkDays(t, year, month, day)
			}
			for _, day := range []int64{60, 99, 100, 1<<32 + 1, -1 << 32, 1 << 62} {
				checkDays(t, year, month, day)
			}
		}
		for _, month := range []int64{15, 25, 99, 100, 1<<32 + 1, 1<<8 + 1, 1<<62 + 1} {
			checkDays(t, year, month, 1)
		}
	}
	checkNone(t, "2024-00-01T00:00:00Z", "2024-13-01T00:00:00Z", "2024-99-01T00:00:00Z", "2024-01-00T00:00:00Z", "2024-01-32T00:00:00Z", "2024-04-31T00:00:00Z", "2024-06-31T00:00:00Z", "2024-09-31T00:00:00Z", "2024-11-31T00:00:00Z", "2024-02-30T00:00:00Z", "2023-02-29T00:00:00Z", "1900-02-29T00:00:00Z", "2100-02-29T00:00:00Z", "0100-02-29T00:00:00Z", "9900-02-29T00:00:00Z", "0001-02-29T00:00:00Z")
	for _, s := range []string{"2024-02-29", "2000-02-29", "1600-02-29", "0000-02-29", "0004-02-29", "0400-02-29", "9600-02-29", "9996-02-29", "2024-01-31", "2024-12-31"} {
		if !stamp.Is(s + "T00:00:00Z") {
			t.Errorf("%s is no day", s)
		}
	}
}

// P11.1: Days and Is of the ends of February of all years.
func TestLeapYears(t *testing.T) {
	leap := 0
	for year := range int64(10000) {
		for _, day := range []int64{28, 29, 30} {
			checkDays(t, year, 2, day)
		}
		if _, ok := stamp.Days(year, 2, 29); ok {
			leap++
		}
	}
	if leap != 2425 {
		t.Errorf("%d leap years of 10000", leap)
	}
}

// P11.1: Days of the least and the greatest numbers, in each place.
func TestDaysOfGreat(t *testing.T) {
	great := []int64{math.MinInt64, math.MinInt64 + 1, math.MinInt32, -1, 0, 1, 2, 12, 13, 29, 31, 32, 1970, 9999, 10000, math.MaxInt32, 1 << 32, 1<<32 + 1, math.MaxInt64 - 1, math.MaxInt64}
	for _, year := range great {
		for _, month := range great {
			for _, day := range great {
				checkDays(t, year, month, day)
			}
		}
	}
}

// P11.1: days one behind the other, through all years.
func TestDaysInARow(t *testing.T) {
	want := int64(-719528)
	for year := range int64(10000) {
		for month := int64(1); month <= 12; month++ {
			days := lastDay(year, month)
			for day := int64(1); day <= days; day++ {
				if n, ok := stamp.Days(year, month, day); n != want || !ok {
					t.Fatalf("Days(%d, %d, %d) = %d, %t; want %d", year, month, day, n, ok, want)
				}
				want++
			}
			if n, ok := stamp.Days(year, month, days+1); n != 0 || ok {
				t.Fatalf("Days(%d, %d, %d) = %d, %t", year, month, days+1, n, ok)
			}
		}
	}
	if want != 2932897 {
		t.Errorf("the days end with %d", want)
	}
}

// P11.1: hours, minutes and seconds of all two digits.
func TestTimes(t *testing.T) {
	for n := range int64(100) {
		d := digits(n, 2)
		for _, x := range []struct {
			s           string
			worth, most int64
		}{
			{"1970-01-01T" + d + ":00:00", 3600, 23}, {"1970-01-01T00:" + d + ":00", 60, 59}, {"1970-01-01T00:00:" + d, 1, 59},
		} {
			if n <= x.most {
				checkStamp(t, x.s+"Z", n*x.worth)
				checkStamp(t, x.s+".25Z", n*x.worth)
			} else {
				checkNone(t, x.s+"Z", x.s+".25Z")
			}
		}
	}
	checkNone(t, "2024-01-01T24:00:00Z", "2024-01-01T23:60:00Z", "2024-01-01T23:59:60Z", "2016-12-31T23:59:60Z", "2024-01-01T99:99:99Z")
}

// P11.1: what may stand behind the seconds, and what may not.
func TestBehind(t *testing.T) {
	const up = "1999-12-31T23:59:59"
	for _, s := range []string{"Z", ".1Z", ".9Z", ".5Z", ".01Z", ".05Z", ".12Z", ".001Z", ".10001Z", ".99Z", ".123456789Z", ".999999999Z", ".000000001Z", ".100000001Z", ".12345678Z"} {
		checkStamp(t, up+s, 946684799)
	}
	for _, s := range []string{
		"", ".", ".Z", "..Z", ".5", ".5.Z", "..5Z", ".5.5Z", ",5Z", "5Z", "05Z",
		".0Z", ".00Z", ".50Z", ".10Z", ".000Z", ".000000000Z", ".123456780Z", ".1234567890Z", ".1234567891Z", ".0000000001Z", ".0000000000Z", ".1" + strings.Repeat("0", 100) + "1Z",
		". 5Z", ".5 Z", ".-5Z", ".+5Z", ".5eZ", ".1e1Z", ".1_1Z", ".1a1Z", ".a1Z", ".1aZ", ".1/1Z", ".1:1Z", ".1\x001Z", ".1\xb01Z", ".\u0665Z", ".\uff15Z", ".1-1Z", ".1T1Z", ".1Z1Z", ".Z1Z",
		"ZZ", "Z ", " Z", "Z\n", "\nZ", "Z\x00", "Z.5", "Z.5Z", "Z0", "Z1", ".5ZZ", ".5Z ", ".5Z0", ".5Z.5Z", "Z+00:00", "Z-00:00", "Z[UTC]", "z", ".5z",
		"+00:00", "-00:00", "+01:00", "-12:30", "+0000", "+00", ".5+00:00", ".5-01:00", "UTC", "GMT", " UTC", "A", "\xda", "\x80",
	} {
		checkNone(t, up+s)
	}
}

// P11.2: Make of the years' ends, and beyond them.
func TestMake(t *testing.T) {
	for _, n := range []int64{math.MinInt64, math.MinInt64 + 1, math.MinInt64 + 62167219200, math.MinInt64 + 86400, -1 << 62, -1 << 53, -1 << 40, first - 86400, first - 2, first - 1, last + 1, last + 2, last + 86400, 1 << 40, 1 << 53, 1<<62 + 1, math.MaxInt64 - 62167219200, math.MaxInt64 - 1, math.MaxInt64} {
		checkMake(t, n, "")
	}
	checkMake(t, first, "0000-01-01T00:00:00Z")
	checkMake(t, last, "9999-12-31T23:59:59Z")
	checkMake(t, 0, "1970-01-01T00:00:00Z")
	checkMake(t, -1, "1969-12-31T23:59:59Z")
	checkMake(t, 86399, "1970-01-01T23:59:59Z")
	checkMake(t, 86400, "1970-01-02T00:00:00Z")
	for year := range 10000 {
		y := digits(int64(year), 4)
		checkMake(t, time.Date(year, 1, 1, 0, 0, 0, 0, time.UTC).Unix(), y+"-01-01T00:00:00Z")
		checkMake(t, time.Date(year, 12, 31, 23, 59, 59, 0, time.UTC).Unix(), y+"-12-31T23:59:59Z")
		march := time.Date(year, 3, 1, 0, 0, 0, 0, time.UTC).Unix()
		checkMake(t, march, y+"-03-01T00:00:00Z")
		if isLeap(int64(year)) {
			checkMake(t, march-1, y+"-02-29T23:59:59Z")
			checkMake(t, march-86400, y+"-02-29T00:00:00Z")
			checkMake(t, march-86401, y+"-02-28T23:59:59Z")
		} else {
			checkMake(t, march-1, y+"-02-28T23:59:59Z")
			checkMake(t, march-86400, y+"-02-28T00:00:00Z")
		}
	}
}

// P11.2 and P11.4: Make of the first and the last second of each day.
func TestMakeOfDays(t *testing.T) {
	for n := int64(first); n <= last; n += 86400 {
		day := time.Unix(n, 0).UTC().Format("2006-01-02")
		checkMake(t, n, day+"T00:00:00Z")
		checkMake(t, n+86399, day+"T23:59:59Z")
	}
}

// P11.2: Make of each second of some days.
func TestMakeOfSeconds(t *testing.T) {
	for _, start := range []int64{first, -86400, 0, 951782400, last - 86399} {
		for n := start; n < start+86400; n++ {
			checkBack(t, n)
		}
	}
}

// P11.3: Compare of stamps whose seconds are unlike, and of those that are one
// point in time.
func TestCompare(t *testing.T) {
	checkRising(t,
		"0000-01-01T00:00:00Z", "0000-01-01T00:00:00.000000001Z", "0000-01-01T00:00:01Z", "0000-12-31T23:59:59.9Z", "0001-01-01T00:00:00Z", "0999-12-31T23:59:59Z", "1000-01-01T00:00:00Z",
		"1969-12-31T23:59:59Z", "1969-12-31T23:59:59.999999999Z", "1970-01-01T00:00:00Z", "1970-01-01T00:00:00.9Z", "1970-01-01T00:00:01Z", "1970-01-01T00:00:09Z", "1970-01-01T00:00:10Z", "1970-01-01T00:09:00Z", "1970-01-01T00:10:00Z", "1970-01-01T09:59:59Z", "1970-01-01T10:00:00Z", "1970-01-02T00:00:00Z", "1970-02-01T00:00:00Z",
		"2023-12-31T23:59:59.123456789Z", "2024-01-01T00:00:00Z", "2024-02-28T23:59:59Z", "2024-02-29T00:00:00Z", "2024-02-29T23:59:59.99Z", "2024-03-01T00:00:00Z", "2024-12-31T00:00:00.1Z", "2025-01-01T00:00:00Z", "9999-12-31T23:59:59Z", "9999-12-31T23:59:59.999999999Z")
}

// P11.3: Compare of stamps whose seconds are the same.
func TestCompareBehind(t *testing.T) {
	var stamps []string
	for _, behind := range []string{"", ".000000001", ".000000009", ".00000001", ".000000011", ".0000001", ".000001", ".009", ".01", ".010000001", ".049999999", ".05", ".050000001", ".051", ".06", ".099999999", ".1", ".100000001", ".10001", ".11", ".12", ".123456788", ".123456789", ".12345679", ".1234568", ".2", ".49", ".499999999", ".5", ".500000001", ".501", ".51", ".55", ".59", ".6", ".9", ".95", ".99", ".999999989", ".99999999", ".999999999"} {
		stamps = append(stamps, "2024-01-01T00:00:00"+behind+"Z")
	}
	stamps = append(stamps, "2024-01-01T00:00:01Z")
	checkRising(t, stamps...)
	checkCompare(t, "2024-01-01T00:00:00.9Z", "2024-01-01T00:00:01.05Z", -1)
	checkCompare(t, "2024-01-01T00:00:00.5Z", "2024-01-01T00:00:00Z", 1)
	checkCompare(t, "2023-12-31T23:59:59.999999999Z", "2024-01-01T00:00:00Z", -1)
}

// P11.3: Compare of what is no stamp, beside stamps and by itself.
func TestCompareOfNone(t *testing.T) {
	none := []string{
		"", "\x00", "\x00\x00", " ", "-", "0", "0000-01-01T00:00:00", "0000-01-01T00:00:00.0Z", "0000-01-01T00:00:00.5", "0000-01-01T00:00:00.50Z", "0000-01-01T00:00:00Z ", "0000-01-01T00:00:00ZZ", "0000-01-01T00:00:00z",
		"1970-01-01T00:00:00+00:00", "2023-02-29T00:00:00Z", "2024-01-01T00:00:60Z", "9999-12-31T23:59:59.0Z", "9999-12-31T24:00:00Z", "9999-13-01T00:00:00Z", "99999-01-01T00:00:00Z", "A", "Z", "ZZ", "a", "aa", "ab", "b", "x", "~", "\x7f", "\x80", "\x80\x00", "\xc3\xa9", "\xfe", "\xff", "\xff\x00", "\xff\xff",
	}
	checkRising(t, none...)
	for _, s := range none {
		for _, is := range []string{"0000-01-01T00:00:00Z", "0000-01-01T00:00:00.5Z", "1970-01-01T00:00:00Z", "2024-06-07T08:09:10.11Z", "9999-12-31T23:59:59Z", "9999-12-31T23:59:59.999999999Z"} {
			checkCompare(t, s, is, -1)
		}
	}
	long := strings.Repeat("9", 1<<20)
	checkRising(t, long, long+"\x00", long+"0")
	checkCompare(t, long, "0000-01-01T00:00:00Z", -1)
	checkCompare(t, "0000-01-01T00:00:00Z", "0000-01-01T00:00:00Z"+long, 1)
}

// P11.3: Compare of texts by chance, stamps and others.
func TestCompareByChance(t *testing.T) {
	random := rand.New(rand.NewSource(113))
	told := map[int]int{}
	text := func(base int64) string {
		s := makeOf(base + random.Int63n(4))
		switch random.Intn(6) {
		case 0, 1, 2:
			s = s[:19] + "." + digits(random.Int63n(100), 1+random.Intn(4)) + "Z"
		case 3:
			at := random.Intn(len(s))
			s = s[:at] + string([]byte{"0123456789-T:.Z\xff "[random.Intn(17)]}) + s[at+1:]
		}
		return s
	}
	for range 200000 {
		base := int64(first) + random.Int63n(last-first-3)
		a, b := text(base), text(base)
		want := compareOf(a, b)
		told[want]++
		checkCompare(t, a, b, want)
	}
	for want := -1; want <= 1; want++ {
		if told[want] < 1000 {
			t.Errorf("told: %v", told)
		}
	}
}

// P11.4: Seconds of Make are the number.
func TestBack(t *testing.T) {
	eachSecond(func(n int64) { checkBack(t, n) })
}

// P11.4: Make of the Seconds is the stamp up to its point; texts that are
// made by chance are stamps or not as the library has it.
func TestForth(t *testing.T) {
	random := rand.New(rand.NewSource(114))
	found, none := 0, 0
	for range 200000 {
		s := digits(random.Int63n(10000), 4) + "-" + digits(random.Int63n(14), 2) + "-" + digits(random.Int63n(33), 2) + "T" + digits(random.Int63n(25), 2) + ":" + digits(random.Int63n(61), 2) + ":" + digits(random.Int63n(61), 2)
		if random.Intn(2) == 0 {
			s += "." + digits(random.Int63n(1000000000), 1+random.Intn(10))
		}
		checkText(t, s+"Z")
		n, ok := stamp.Seconds(s + "Z")
		if !ok {
			none++
			continue
		}
		found++
		checkMake(t, n, s[:19]+"Z")
	}
	if found < 1000 || none < 1000 {
		t.Errorf("%d stamps, %d others", found, none)
	}
}

// P11.4: stamps without a point stand byte by byte as their seconds do.
func TestRising(t *testing.T) {
	var seconds []int64
	eachSecond(func(n int64) {
		if first <= n && n <= last {
			seconds = append(seconds, n)
		}
	})
	slices.Sort(seconds)
	seconds = slices.Compact(seconds)
	for i, n := range seconds[1:] {
		a, b := stamp.Make(seconds[i]), stamp.Make(n)
		if a >= b {
			t.Fatalf("%d is %q, %d is %q", seconds[i], a, n, b)
		}
		checkCompare(t, a, b, -1)
	}
}

// The section 'Examples'.
func TestExamples(t *testing.T) {
	checkStamp(t, "1970-01-02T00:00:01Z", 86401)
	checkNone(t, "2023-02-29T00:00:00Z", "2024-01-01T00:00:60Z", "2024-01-01T00:00:00.50Z")
	checkMake(t, 951782400, "2000-02-29T00:00:00Z")
}
