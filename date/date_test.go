package date

import (
	"math"
	"strings"
	"testing"
	"time"

	"jetway/api"
)

// outside: numbers that are neither days nor minutes nor moments, those too that fewer bits would count as right ones.
func outside(most int) []int {
	return []int{
		-1, -2, -most, -most - 1, most + 1, most + 2, 2 * (most + 1),
		1 << 20, 1 << 32, 1<<32 + 1, -1 << 32, 1 << 62, -1 << 62, 1<<32 + most,
		math.MinInt32, math.MaxInt32, math.MinInt, math.MinInt + 1, math.MaxInt - 1, math.MaxInt,
	}
}

// yearDay: the same day of a year with a 29th of February that began on a Monday.
func yearDay(day int) time.Time {
	return time.Date(2024, time.January, 1+day, 0, 0, 0, 0, time.UTC)
}

func dayText(day int) string {
	return strings.ToUpper(yearDay(day).Format("02Jan"))
}

func clockText(minute int) string {
	return time.Date(2024, time.January, 1, 0, minute, 0, 0, time.UTC).Format("1504")
}

func checkDay(t *testing.T, day int, want string) {
	t.Helper()
	if s, e := Text(day); s != want || e != api.OK {
		t.Errorf("Text(%d) is %q, %v, not %q", day, s, e, want)
	}
	if n, ok := Read(want); n != day || !ok {
		t.Errorf("Read(%q) is %d, %v, not %d", want, n, ok, day)
	}
}

func checkNoDay(t *testing.T, s string) {
	t.Helper()
	if n, ok := Read(s); n != 0 || ok {
		t.Errorf("Read(%q) is %d, %v", s, n, ok)
	}
}

func checkClock(t *testing.T, minute int, want string) {
	t.Helper()
	if s, e := Clock(minute); s != want || e != api.OK {
		t.Errorf("Clock(%d) is %q, %v, not %q", minute, s, e, want)
	}
	if n, ok := ReadClock(want); n != minute || !ok {
		t.Errorf("ReadClock(%q) is %d, %v, not %d", want, n, ok, minute)
	}
}

func checkNoClock(t *testing.T, s string) {
	t.Helper()
	if n, ok := ReadClock(s); n != 0 || ok {
		t.Errorf("ReadClock(%q) is %d, %v", s, n, ok)
	}
}

// P3.1.

func TestDayExamples(t *testing.T) {
	checkDay(t, 0, "01JAN")
	checkDay(t, 59, "29FEB")
	checkDay(t, 60, "01MAR")
	checkDay(t, 365, "31DEC")
}

func TestFirstAndLastDaysOfMonths(t *testing.T) {
	months := []struct {
		first, last         int
		firstText, lastText string
	}{
		{0, 30, "01JAN", "31JAN"}, {31, 59, "01FEB", "29FEB"}, {60, 90, "01MAR", "31MAR"},
		{91, 120, "01APR", "30APR"}, {121, 151, "01MAY", "31MAY"}, {152, 181, "01JUN", "30JUN"},
		{182, 212, "01JUL", "31JUL"}, {213, 243, "01AUG", "31AUG"}, {244, 273, "01SEP", "30SEP"},
		{274, 304, "01OCT", "31OCT"}, {305, 334, "01NOV", "30NOV"}, {335, 365, "01DEC", "31DEC"},
	}
	for _, m := range months {
		checkDay(t, m.first, m.firstText)
		checkDay(t, m.last, m.lastText)
	}
	checkDay(t, 58, "28FEB")
}

func TestAllDays(t *testing.T) {
	for day := range api.Days {
		checkDay(t, day, dayText(day))
		if got, want := Weekday(day), (int(yearDay(day).Weekday())+6)%7+1; got != want {
			t.Errorf("Weekday(%d) is %d, not %d", day, got, want)
		}
	}
}

func TestNoDays(t *testing.T) {
	for _, n := range outside(365) {
		if s, e := Text(n); s != "" || e != api.ErrRange {
			t.Errorf("Text(%d) is %q, %v", n, s, e)
		}
		if w := Weekday(n); w != 0 {
			t.Errorf("Weekday(%d) is %d", n, w)
		}
	}
	for n := -2000; n < 2000; n++ {
		_, e := Text(n)
		if is := n >= 0 && n <= 365; (e == api.OK) != is || (Weekday(n) != 0) != is {
			t.Errorf("Text(%d) is %v, Weekday %d", n, e, Weekday(n))
		}
	}
}

func TestWeekdayExamples(t *testing.T) {
	for day, want := range map[int]int{0: 1, 1: 2, 5: 6, 6: 7, 7: 1, 13: 7, 14: 1, 59: 4, 364: 1, 365: 2} {
		if got := Weekday(day); got != want {
			t.Errorf("Weekday(%d) is %d, not %d", day, got, want)
		}
	}
}

func TestWrongDayTexts(t *testing.T) {
	for _, s := range []string{
		"", "0", "01", "01J", "01JA", "1JAN", "01JANX", "01JAN ", " 01JAN", "001JAN", "01JANU", "01JAN\x00", "01JAN\n", "01JAN01JAN",
		"00JAN", "32JAN", "99JAN", "00FEB", "30FEB", "31FEB", "32MAR", "31APR", "32MAY", "31JUN", "32JUL", "32AUG", "31SEP", "32OCT", "31NOV", "32DEC", "00DEC",
		"01jan", "01Jan", "01JAn", "01jAN", "29feb", "31dec",
		"01XXX", "01ANF", "01NFE", "01EBM", "01ECJ", "01JAM", "01JUM", "01MAT", "01   ", "01123", "01\x00\x00\x00",
		"AAJAN", "+1JAN", "-1JAN", " 1JAN", "1 JAN", "0+JAN", "0 JAN", "1_JAN", "0xJAN", "1.JAN", "\x00\x01JAN", "/1JAN", ":1JAN", "0/JAN", "0:JAN",
		"JAN01", "JANJA", "\xb0\xb1JAN", "0\xb1JAN", "01J\xc1N", "\xff\xff\xff\xff\xff", "01JÉ", "０JAN", "１JA", "\u0661\u0661J",
	} {
		checkNoDay(t, s)
	}
}

// Every text of five bytes that differs from a day's at one place, and such texts of one byte more or less.
func TestTextsBesideDays(t *testing.T) {
	days := map[string]int{}
	for day := range api.Days {
		days[dayText(day)] = day
	}
	check := func(s string) {
		want, is := days[s]
		if n, ok := Read(s); n != want || ok != is {
			t.Fatalf("Read(%q) is %d, %v, not %d, %v", s, n, ok, want, is)
		}
	}
	for s := range days {
		for at := range len(s) + 1 {
			for c := range 256 {
				one := string([]byte{byte(c)})
				check(s[:at] + one + s[at:])
				if at < len(s) {
					check(s[:at] + one + s[at+1:])
				}
			}
			if at < len(s) {
				check(s[:at] + s[at+1:])
			}
		}
	}
	for n := range 100 {
		for _, month := range strings.Fields("JAN FEB MAR APR MAY JUN JUL AUG SEP OCT NOV DEC") {
			check(string([]byte{byte('0' + n/10), byte('0' + n%10)}) + month)
		}
	}
}

func TestAllMonthNames(t *testing.T) {
	good := " JAN FEB MAR APR MAY JUN JUL AUG SEP OCT NOV DEC "
	for n := range 26 * 26 * 26 {
		name := string([]byte{byte('A' + n/676), byte('A' + n/26%26), byte('A' + n%26)})
		if _, ok := Read("01" + name); ok != strings.Contains(good, " "+name+" ") {
			t.Errorf("Read of 01%s is %v", name, ok)
		}
	}
}

// P3.2.

func TestClockExamples(t *testing.T) {
	for minute, want := range map[int]string{
		0: "0000", 1: "0001", 9: "0009", 10: "0010", 59: "0059", 60: "0100", 61: "0101", 570: "0930",
		599: "0959", 600: "1000", 719: "1159", 720: "1200", 1199: "1959", 1200: "2000", 1380: "2300", 1439: "2359",
	} {
		checkClock(t, minute, want)
	}
}

func TestAllMinutes(t *testing.T) {
	for minute := range api.Minutes {
		checkClock(t, minute, clockText(minute))
	}
}

func TestNoMinutes(t *testing.T) {
	for _, n := range outside(1439) {
		if s, e := Clock(n); s != "" || e != api.ErrRange {
			t.Errorf("Clock(%d) is %q, %v", n, s, e)
		}
	}
	for n := -5000; n < 5000; n++ {
		if _, e := Clock(n); (e == api.OK) != (n >= 0 && n <= 1439) {
			t.Errorf("Clock(%d) is %v", n, e)
		}
	}
}

func TestWrongClocks(t *testing.T) {
	for _, s := range []string{
		"", "0", "00", "000", "930", "00000", "09300", "0930 ", " 0930", "0930\x00", "0930\n", "09300930",
		"2400", "2360", "2401", "2459", "2500", "0060", "0061", "0099", "0160", "1960", "9900", "9999",
		"09:3", "9:30", "09.3", "-100", "+100", "-000", "+000", "00-1", "00+1", " 100", "1 00", "10 0", "100 ", "0x10", "1_00",
		"/000", ":000", "0/00", "0:00", "00/0", "00:0", "000/", "000:", "AAAA", "093A", "0O00",
		"\x00\x00\x00\x00", "\xb0\xb0\xb0\xb0", "000\xb0", "\xff\xff\xff\xff", "0É1", "０0", "\u0661\u0661",
	} {
		checkNoClock(t, s)
	}
}

func TestFourDigits(t *testing.T) {
	for n := range 10000 {
		s := string([]byte{byte('0' + n/1000), byte('0' + n/100%10), byte('0' + n/10%10), byte('0' + n%10)})
		h, m := n/100, n%100
		if h < 24 && m < 60 {
			checkClock(t, h*60+m, s)
		} else {
			checkNoClock(t, s)
		}
	}
}

// Every text of four bytes that differs from a minute's at one place, and such texts of one byte more or less.
func TestTextsBesideMinutes(t *testing.T) {
	minutes := map[string]int{}
	for minute := range api.Minutes {
		minutes[clockText(minute)] = minute
	}
	check := func(s string) {
		want, is := minutes[s]
		if n, ok := ReadClock(s); n != want || ok != is {
			t.Fatalf("ReadClock(%q) is %d, %v, not %d, %v", s, n, ok, want, is)
		}
	}
	for s := range minutes {
		for at := range len(s) + 1 {
			for c := range 256 {
				one := string([]byte{byte(c)})
				check(s[:at] + one + s[at:])
				if at < len(s) {
					check(s[:at] + one + s[at+1:])
				}
			}
			if at < len(s) {
				check(s[:at] + s[at+1:])
			}
		}
	}
}

// Lengths that a byte or two bytes would count as right ones.
func TestLongTexts(t *testing.T) {
	for _, more := range []int{1, 2, 3, 4, 5, 256, 65536} {
		for _, c := range []string{"0", "1", " ", "N", "\x00"} {
			checkNoDay(t, "01JAN"+strings.Repeat(c, more))
			checkNoDay(t, strings.Repeat(c, more)+"01JAN")
			checkNoClock(t, "0000"+strings.Repeat(c, more))
			checkNoClock(t, strings.Repeat(c, more)+"0000")
		}
	}
}

// P3.3.

func checkMoment(t *testing.T, day, minute, want int) {
	t.Helper()
	if n, e := Join(day, minute); n != want || e != api.OK {
		t.Errorf("Join(%d, %d) is %d, %v, not %d", day, minute, n, e, want)
	}
	if d, m, e := Split(want); d != day || m != minute || e != api.OK {
		t.Errorf("Split(%d) is %d, %d, %v, not %d, %d", want, d, m, e, day, minute)
	}
}

func TestMomentExamples(t *testing.T) {
	checkMoment(t, 1, 5, 1445)
	checkMoment(t, 0, 0, 0)
	checkMoment(t, 0, 1, 1)
	checkMoment(t, 0, 1439, 1439)
	checkMoment(t, 1, 0, 1440)
	checkMoment(t, 365, 0, 525600)
	checkMoment(t, 365, 1438, 527038)
	checkMoment(t, 365, 1439, 527039)
}

func TestAllMoments(t *testing.T) {
	next := 0
	for day := range api.Days {
		for minute := range api.Minutes {
			checkMoment(t, day, minute, next)
			next++
		}
	}
	if next != 527040 {
		t.Errorf("%d moments", next)
	}
}

func TestNoMoments(t *testing.T) {
	for _, n := range outside(527039) {
		if d, m, e := Split(n); d != 0 || m != 0 || e != api.ErrRange {
			t.Errorf("Split(%d) is %d, %d, %v", n, d, m, e)
		}
	}
}

func TestJoinOfWrongNumbers(t *testing.T) {
	days := append(outside(365), 0, 1, 200, 365)
	minutes := append(outside(1439), 0, 1, 700, 1439)
	for _, day := range days {
		for _, minute := range minutes {
			if day >= 0 && day <= 365 && minute >= 0 && minute <= 1439 {
				continue
			}
			if n, e := Join(day, minute); n != 0 || e != api.ErrRange {
				t.Errorf("Join(%d, %d) is %d, %v", day, minute, n, e)
			}
		}
	}
}
