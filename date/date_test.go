package date_test

import (
	"fmt"
	"math"
	"strings"
	"testing"
	"time"

	"recordlink/api"
	"recordlink/date"
)

// of returns a date.
func of(year, month, day int) api.Date { return api.Date{Year: year, Month: month, Day: day} }

// first and last are the ends of the calendar.
var first, last = of(api.MinYear, 1, 1), of(api.MaxYear, 12, 31)

// clockDay returns a date as package time knows it.
func clockDay(d api.Date) time.Time {
	return time.Date(d.Year, time.Month(d.Month), d.Day, 0, 0, 0, 0, time.UTC)
}

// calendar returns all dates, ascending, by package time.
func calendar() []api.Date {
	var all []api.Date
	for at := clockDay(first); at.Year() <= api.MaxYear; at = at.AddDate(0, 0, 1) {
		all = append(all, of(at.Year(), int(at.Month()), at.Day()))
	}
	return all
}

// invalid returns dates that are not valid.
func invalid() []api.Date {
	all := []api.Date{
		{}, of(0, 1, 1), of(api.MinYear-1, 12, 31), of(api.MaxYear+1, 1, 1), of(-2000, 1, 1), of(-api.MinYear, 1, 1), of(20000, 1, 1), of(99, 1, 1),
		of(2000, 0, 1), of(2000, 13, 1), of(2000, -1, 1), of(2000, 14, 1), of(2000, 24, 1), of(2000, 1, 0), of(2000, 1, -1), of(2000, 1, 32), of(2000, 1, 100),
		of(2000, 2, 30), of(2001, 2, 29), of(2004, 2, 30), of(2100, 2, 29), of(1800, 2, 29), of(1900, 2, 29), of(2199, 2, 29),
		of(2000, 4, 31), of(2000, 6, 31), of(2000, 9, 31), of(2000, 11, 31),
		of(0, 0, 2000), of(1, 2, 2000), of(2000, 31, 12),
	}
	for _, n := range []int{math.MinInt, math.MinInt + 1, math.MaxInt, math.MinInt32, math.MaxInt32, 1 << 32, 1<<32 + 1} {
		all = append(all, of(n, 1, 1), of(2000, n, 1), of(2000, 1, n), of(n, n, n))
	}
	return all
}

// P3.1: Valid knows the days that package time knows, and no others.
func TestValidAll(t *testing.T) {
	for year := api.MinYear - 5; year <= api.MaxYear+5; year++ {
		for month := -1; month <= 14; month++ {
			for day := -1; day <= 33; day++ {
				d := of(year, month, day)
				at := clockDay(d)
				exists := at.Year() == year && int(at.Month()) == month && at.Day() == day
				inCalendar := year >= api.MinYear && year <= api.MaxYear
				if got := date.Valid(d); got != (exists && inCalendar) {
					t.Errorf("Valid(%v) is %v", d, got)
				}
			}
		}
	}
}

// P3.1: leap years, the ends of the calendar and of months.
func TestValidEdges(t *testing.T) {
	for _, d := range []api.Date{
		first, last, of(2000, 2, 29), of(2004, 2, 29), of(2196, 2, 29), of(1804, 2, 29), of(2001, 2, 28), of(1900, 2, 28), of(2100, 2, 28),
		of(2001, 1, 31), of(2001, 3, 31), of(2001, 4, 30), of(2001, 5, 31), of(2001, 6, 30), of(2001, 7, 31),
		of(2001, 8, 31), of(2001, 9, 30), of(2001, 10, 31), of(2001, 11, 30), of(2001, 12, 31),
	} {
		if !date.Valid(d) {
			t.Errorf("%v is valid", d)
		}
	}
	for _, d := range invalid() {
		if date.Valid(d) {
			t.Errorf("%v is not valid", d)
		}
	}
}

// texts returns the three forms of a year, a month and a day.
func texts(d api.Date) []string {
	return []string{
		fmt.Sprintf("%04d-%02d-%02d", d.Year, d.Month, d.Day),
		fmt.Sprintf("%02d.%02d.%04d", d.Day, d.Month, d.Year),
		fmt.Sprintf("%02d/%02d/%04d", d.Month, d.Day, d.Year),
	}
}

// expectParse checks what Parse reads.
func expectParse(t *testing.T, s string, want api.Date) {
	t.Helper()
	if got, e := date.Parse(s); e != api.OK || got != want {
		t.Errorf("Parse(%q) is %v, %d, not %v", s, got, e, want)
	}
}

// expectNoParse checks that a text is no date.
func expectNoParse(t *testing.T, s string) {
	t.Helper()
	if got, e := date.Parse(s); e != api.ErrDate || got != (api.Date{}) {
		t.Errorf("Parse(%.100q) is %v, %d", s, got, e)
	}
}

// P3.1: Parse reads every date in each of the three forms.
func TestParseAll(t *testing.T) {
	for _, d := range calendar() {
		for _, s := range texts(d) {
			expectParse(t, s, d)
		}
	}
}

// P3.1: the separators decide which numbers are month and day.
func TestParseForms(t *testing.T) {
	expectParse(t, "02/29/2000", of(2000, 2, 29))
	expectParse(t, "29.02.2000", of(2000, 2, 29))
	expectParse(t, "2000-02-29", of(2000, 2, 29))
	expectParse(t, "03.02.2000", of(2000, 2, 3))
	expectParse(t, "03/02/2000", of(2000, 3, 2))
	expectParse(t, "2000-03-02", of(2000, 3, 2))
	expectParse(t, "31.12.1999", of(1999, 12, 31))
	expectParse(t, "12/31/1999", of(1999, 12, 31))
	expectNoParse(t, "12.31.1999")
	expectNoParse(t, "31/12/1999")
	expectNoParse(t, "1999-31-12")
	expectNoParse(t, "29.02.1900")
}

// P3.1: dates that do not exist are none in any form.
func TestParseInvalidDates(t *testing.T) {
	for _, d := range invalid() {
		for _, s := range texts(d) {
			expectNoParse(t, s)
		}
	}
	for _, d := range []api.Date{of(9999, 1, 1), of(9999, 99, 99), of(0, 0, 0), of(1799, 12, 31), of(2200, 1, 1)} {
		for _, s := range texts(d) {
			expectNoParse(t, s)
		}
	}
}

// P3.1: no byte can be changed to one that is neither a digit nor the same separator.
func TestParseBytes(t *testing.T) {
	for _, s := range texts(of(2000, 2, 3)) {
		for i := range len(s) {
			for c := range 256 {
				changed := []byte(s)
				changed[i] = byte(c)
				isDigit := c >= '0' && c <= '9'
				wasDigit := s[i] >= '0' && s[i] <= '9'
				if string(changed) != s && !(isDigit && wasDigit) {
					expectNoParse(t, string(changed))
				}
			}
		}
	}
}

// P3.1: both separators belong to one form, and stand where this form has them.
func TestParseSeparators(t *testing.T) {
	for _, a := range []string{"-", ".", "/", " ", "0", ":"} {
		for _, b := range []string{"-", ".", "/", " ", "0", ":"} {
			if a != b || a != "-" {
				expectNoParse(t, "2000"+a+"02"+b+"03")
			}
			if a != b || a != "." && a != "/" {
				expectNoParse(t, "02"+a+"03"+b+"2000")
			}
		}
	}
	for _, s := range []string{"02-03-2000", "2000.02.03", "2000/02/03", "20-00-0203", "02.0302000.", "-.-.-.-.-.", "..........", "----------", "//////////"} {
		expectNoParse(t, s)
	}
}

// P3.1: a text has exactly ten bytes; signs and spaces are no digits.
func TestParseLengths(t *testing.T) {
	for _, s := range texts(of(2000, 2, 3)) {
		for i := range len(s) {
			expectNoParse(t, s[:i])
			expectNoParse(t, s[i+1:])
			expectNoParse(t, s[:i]+s[i+1:])
			expectNoParse(t, s[:i]+"0"+s[i:])
			expectNoParse(t, s[:i]+" "+s[i:])
		}
		for _, added := range []string{" ", "0", "\x00", "\n", "T", strings.Repeat("0", 1<<16)} {
			expectNoParse(t, s+added)
			expectNoParse(t, added+s)
		}
	}
	for _, s := range []string{
		"", "2000-2-3", "2000-2-03", "3.2.2000", "2/3/2000", "20000203", "2000-02-3 ", "2000-02- 3", "2000-02-+3", "2000--2-03", "+200-02-03", "-200-02-03",
		"+3.02.2000", "03.+2.2000", "03.02.+200", "-3.02.2000", "+2/03/2000", "02/+3/2000", "0x10-02-03", "2_00-02-03", "\xd9\xa0\xd9\xa2.02.200", "20000203  ",
		"165/-02-03", "03.02.165/", "02/03/165/", "165.-02-03", "200:-02-03", "199:-02-03", "2000-0:-03", "2000-02-0:", "2000-02-1/", "2000-02-1:",
	} {
		expectNoParse(t, s)
	}
}

// P3.1: Format writes the eight digits of every date, and Read reads them.
func TestFormatAll(t *testing.T) {
	for _, d := range calendar() {
		want := fmt.Sprintf("%04d%02d%02d", d.Year, d.Month, d.Day)
		if got, e := date.Format(d); e != api.OK || got != want {
			t.Errorf("Format(%v) is %q, %d", d, got, e)
		}
		if got, e := date.Read(want); e != api.OK || got != d {
			t.Errorf("Read(%q) is %v, %d", want, got, e)
		}
	}
}

// P3.1: Format has no text for a date that does not exist, and Read reads none of its numbers.
func TestFormatInvalid(t *testing.T) {
	for _, d := range invalid() {
		if got, e := date.Format(d); e != api.ErrDate || got != "" {
			t.Errorf("Format(%v) is %q, %d", d, got, e)
		}
		expectNoRead(t, fmt.Sprintf("%04d%02d%02d", d.Year, d.Month, d.Day))
	}
}

// expectNoRead checks that a text is not the eight digits of a date.
func expectNoRead(t *testing.T, s string) {
	t.Helper()
	if got, e := date.Read(s); e != api.ErrDate || got != (api.Date{}) {
		t.Errorf("Read(%.100q) is %v, %d", s, got, e)
	}
}

// P3.1: Read takes exactly eight digits.
func TestReadForm(t *testing.T) {
	s := "20000203"
	for i := range len(s) {
		for c := range 256 {
			if c < '0' || c > '9' {
				expectNoRead(t, s[:i]+string([]byte{byte(c)})+s[i+1:])
			}
		}
		expectNoRead(t, s[:i])
		expectNoRead(t, s[i+1:])
		expectNoRead(t, s[:i]+"0"+s[i:])
	}
	for _, s := range []string{"", "2000023", "200002030", "020000203", "2000-2-3", "00000000", "99999999", "17991231", "22000101", "+2000203", "-2000203", "165/0203", "165.0203", "199:0203", "20000:03", "2000020:", strings.Repeat("0", 1<<16)} {
		expectNoRead(t, s)
	}
	for _, s := range texts(of(2000, 2, 3)) {
		expectNoRead(t, s)
		expectNoRead(t, s[:8])
	}
}

// P3.2: the numbers of days are consecutive from 0, and FromDay leads back.
func TestDayAll(t *testing.T) {
	for n, d := range calendar() {
		if got, e := date.Day(d); e != api.OK || got != n {
			t.Errorf("Day(%v) is %d, %d, not %d", d, got, e, n)
		}
		if got, e := date.FromDay(n); e != api.OK || got != d {
			t.Errorf("FromDay(%d) is %v, %d, not %v", n, got, e, d)
		}
	}
}

// P3.2: the examples, and days around the ends of years with and without a 29th of February.
func TestDayEdges(t *testing.T) {
	for d, want := range map[api.Date]int{
		first: 0, of(1800, 1, 2): 1, of(1800, 2, 28): 58, of(1800, 3, 1): 59, of(1800, 12, 31): 364, of(1801, 1, 1): 365,
		of(1804, 1, 1): 4 * 365, of(1804, 2, 29): 4*365 + 59, of(1804, 12, 31): 5 * 365, of(1805, 1, 1): 5*365 + 1,
		of(1900, 1, 1): 36524, of(2000, 1, 1): 73048, of(2000, 2, 29): 73107, of(2000, 12, 31): 73413, of(2100, 1, 1): 109573, last: 146096,
	} {
		if got, e := date.Day(d); e != api.OK || got != want {
			t.Errorf("Day(%v) is %d, %d, not %d", d, got, e, want)
		}
		if got, e := date.FromDay(want); e != api.OK || got != d {
			t.Errorf("FromDay(%d) is %v, %d, not %v", want, got, e, d)
		}
	}
}

// P3.2: dates that are not valid have no number, and other numbers no date.
func TestDayInvalid(t *testing.T) {
	for _, d := range invalid() {
		if got, e := date.Day(d); e != api.ErrDate || got != 0 {
			t.Errorf("Day(%v) is %d, %d", d, got, e)
		}
	}
	for _, n := range []int{-1, -2, -365, -146097, 146097, 146098, 1 << 20, math.MinInt32, math.MaxInt32, 1 << 32, math.MinInt, math.MaxInt} {
		if got, e := date.FromDay(n); e != api.ErrRange || got != (api.Date{}) {
			t.Errorf("FromDay(%d) is %v, %d", n, got, e)
		}
	}
}

// expectAge checks an age.
func expectAge(t *testing.T, birth, at api.Date, want int) {
	t.Helper()
	if got, e := date.Age(birth, at); e != api.OK || got != want {
		t.Errorf("Age(%v, %v) is %d, %d, not %d", birth, at, got, e, want)
	}
}

// expectNoAge checks the error of an age.
func expectNoAge(t *testing.T, birth, at api.Date, want api.Errno) {
	t.Helper()
	if got, e := date.Age(birth, at); e != want || got != 0 {
		t.Errorf("Age(%v, %v) is %d, %d, not %d", birth, at, got, e, want)
	}
}

// P3.2: an age grows on the birthday, whatever the other one of month and day is.
func TestAge(t *testing.T) {
	birth := of(1980, 6, 15)
	for at, want := range map[api.Date]int{
		birth: 0, of(1980, 6, 16): 0, of(1980, 12, 31): 0, of(1981, 1, 1): 0, of(1981, 6, 14): 0, of(1981, 6, 15): 1, of(1981, 6, 16): 1,
		of(2000, 5, 31): 19, of(2000, 5, 15): 19, of(2000, 6, 1): 19, of(2000, 6, 14): 19, of(2000, 6, 15): 20, of(2000, 6, 30): 20, of(2000, 7, 1): 20, of(2000, 7, 14): 20,
		of(2000, 12, 14): 20, of(2001, 1, 16): 20, last: 219,
	} {
		expectAge(t, birth, at, want)
	}
	expectAge(t, first, last, api.MaxYear-api.MinYear)
	expectAge(t, of(1999, 12, 31), of(2000, 1, 1), 0)
	expectAge(t, first, first, 0)
	expectAge(t, last, last, 0)
}

// P3.2: who was born on the 29th of February is a year older on the 1st of March of years that do not have it.
func TestAgeLeap(t *testing.T) {
	birth := of(2000, 2, 29)
	expectAge(t, birth, of(2001, 2, 28), 0)
	expectAge(t, birth, of(2001, 3, 1), 1)
	expectAge(t, birth, of(2004, 2, 28), 3)
	expectAge(t, birth, of(2004, 2, 29), 4)
	expectAge(t, birth, of(2100, 2, 28), 99)
	expectAge(t, birth, of(2100, 3, 1), 100)
	expectAge(t, of(2000, 2, 28), of(2004, 2, 29), 4)
}

// P3.2: an age is the number of birthdays after the birth.
func TestAgeCounted(t *testing.T) {
	birth := of(1999, 9, 9)
	want, start := 0, clockDay(birth)
	for at := start; at.Year() < 2012; at = at.AddDate(0, 0, 1) {
		if at != start && at.Month() == start.Month() && at.Day() == start.Day() {
			want++
		}
		expectAge(t, birth, of(at.Year(), int(at.Month()), at.Day()), want)
	}
}

// P3.2: a date that is not valid comes first among the errors, then one before the birth.
func TestAgeErrors(t *testing.T) {
	for _, wrong := range invalid() {
		for _, d := range []api.Date{first, of(2000, 2, 29), last} {
			expectNoAge(t, wrong, d, api.ErrDate)
			expectNoAge(t, d, wrong, api.ErrDate)
		}
		expectNoAge(t, wrong, wrong, api.ErrDate)
	}
	birth := of(2000, 6, 15)
	for _, at := range []api.Date{of(2000, 6, 14), of(2000, 5, 15), of(2000, 5, 31), of(1999, 6, 15), of(1999, 12, 31), of(1999, 6, 16), first} {
		expectNoAge(t, birth, at, api.ErrRange)
	}
	expectNoAge(t, last, first, api.ErrRange)
}

// P3.3: every date whose day is a month has one with both exchanged, and no other date has one.
func TestSwappedAll(t *testing.T) {
	for _, d := range calendar() {
		got, ok := date.Swapped(d)
		want := api.Date{}
		if d.Day <= 12 {
			want = of(d.Year, d.Day, d.Month)
		}
		if ok != (d.Day <= 12) || got != want {
			t.Errorf("Swapped(%v) is %v, %v", d, got, ok)
		}
		if again, back := date.Swapped(got); ok && (!back || again != d) {
			t.Errorf("Swapped(%v) is %v, %v, not %v", got, again, back, d)
		}
	}
}

// P3.3: nothing is exchanged in a date that does not exist, even if the result would exist.
func TestSwappedInvalid(t *testing.T) {
	for _, d := range append(invalid(), of(2000, 13, 1), of(2001, 31, 12), of(2000, 12, 13), of(2000, 2, 30), of(1900, 29, 2), of(2000, 2, 29), of(2000, 29, 2)) {
		if got, ok := date.Swapped(d); ok || got != (api.Date{}) {
			t.Errorf("Swapped(%v) is %v, %v", d, got, ok)
		}
	}
	if got, ok := date.Swapped(of(2000, 12, 1)); !ok || got != of(2000, 1, 12) {
		t.Errorf("%v, %v", got, ok)
	}
}

// Consequences: Read of Format is the date; days of later dates are greater.
func TestConsequences(t *testing.T) {
	before := -1
	for _, d := range calendar() {
		s, _ := date.Format(d)
		if got, e := date.Read(s); e != api.OK || got != d {
			t.Errorf("Read(%q) is %v, %d", s, got, e)
		}
		n, e := date.Day(d)
		if e != api.OK || n <= before {
			t.Errorf("Day(%v) is %d, %d", d, n, e)
		}
		before = n
	}
}
