package stock

import (
	"math"
	"math/rand"
	"strconv"
	"strings"
	"testing"

	"jetway/api"
	"jetway/flight"
)

// seats: classes by their letters, with a level each.
func seats(letters string, levels ...int) []api.Class {
	var out []api.Class
	for i, level := range levels {
		out = append(out, api.Class{Letter: letters[i], Level: level})
	}
	return out
}

// one: a flight that is right and flies every day.
func one(carrier string, number int, from, to string, depart, arrive int, classes []api.Class) api.Flight {
	return api.Flight{Key: api.Key{Carrier: carrier, Number: number}, From: from, To: to, Days: 127, Depart: depart, Arrive: arrive, Classes: classes}
}

func onDays(f api.Flight, days uint8) api.Flight {
	f.Days = days
	return f
}

func table(t *testing.T, flights ...api.Flight) *flight.Table {
	t.Helper()
	x, e := flight.New(flights...)
	if e != api.OK {
		t.Fatal("flight.New:", e)
	}
	return x
}

// single: nothing is sold yet of BA1, which flies every day with that level of Y, nor of BA2, which is like it.
func single(t *testing.T, level int) *Stock {
	t.Helper()
	return New(table(t, one("BA", 1, "LON", "PAR", 540, 600, seats("Y", level)), one("BA", 2, "LON", "PAR", 700, 800, seats("Y", level))))
}

func leg(carrier string, number, day int) api.Leg {
	return api.Leg{Key: api.Key{Carrier: carrier, Number: number}, Day: day}
}

func is(t *testing.T, what string, got, want api.Errno) {
	t.Helper()
	if got != want {
		t.Errorf("%s: %v, not %v", what, got, want)
	}
}

func has(t *testing.T, s *Stock, l api.Leg, class byte, sold, left int) {
	t.Helper()
	if gotSold, gotLeft := s.Sold(l, class), s.Left(l, class); gotSold != sold || gotLeft != left {
		t.Errorf("of %s %q %d are sold and %d left, not %d and %d", names([]api.Leg{l}), class, gotSold, gotLeft, sold, left)
	}
}

func names(legs []api.Leg) string {
	var out []string
	for _, l := range legs {
		out = append(out, l.Key.Carrier+strconv.Itoa(l.Key.Number)+"."+strconv.Itoa(l.Day))
	}
	return strings.Join(out, " ")
}

func isText(t *testing.T, what, got, want string) {
	t.Helper()
	if got != want {
		t.Errorf("%s: %q, not %q", what, got, want)
	}
}

// noDays: numbers that are no days, some of which would be days if they wrapped round.
func noDays() []int {
	return []int{-1, -7, -366, 366, 367, 371, 1 << 31, 1 << 32, 1<<32 + 5, math.MinInt, math.MaxInt}
}

// noParty: numbers that are none of 1 to 9, some of which would be if they wrapped round.
func noParty() []int {
	return []int{0, -1, 10, 11, -9, 256 + 1, 1<<32 + 1, -1 << 31, math.MinInt, math.MinInt + 1, math.MaxInt, math.MaxInt - 1}
}

// P10.1.

func TestExample(t *testing.T) {
	s, l := single(t, 3), leg("BA", 1, 5)
	is(t, "Sell 2", s.Sell(l, 'Y', 2), api.OK)
	if left := s.Left(l, 'Y'); left != 1 {
		t.Error("Left:", left)
	}
	is(t, "Sell 2 again", s.Sell(l, 'Y', 2), api.ErrSold)
	is(t, "Cancel 2", s.Cancel(l, 'Y', 2), api.OK)
	is(t, "Cancel 1", s.Cancel(l, 'Y', 1), api.ErrState)
	has(t, s, l, 'Y', 0, 3)
}

func TestOfANewOneNothingIsSold(t *testing.T) {
	s := New(table(t, one("BA", 1, "LON", "PAR", 540, 600, seats("ACFMYZ", 0, 1, 9, 10, 399, 400))))
	for day := range 366 {
		l := leg("BA", 1, day)
		for i, level := range []int{0, 1, 9, 10, 399, 400} {
			has(t, s, l, "ACFMYZ"[i], 0, level)
			is(t, "Cancel of a new one", s.Cancel(l, "ACFMYZ"[i], 1), api.ErrState)
		}
	}
	isText(t, "legs of a new one", names(s.Legs()), "")
	isText(t, "legs of no flights", names(New(table(t)).Legs()), "")
}

func TestSoldOutToTheLastSeat(t *testing.T) {
	for _, level := range []int{0, 1, 2, 8, 9, 10, 18, 30, 399, 400} {
		for party := 1; party <= 9; party++ {
			soldOut(t, level, party)
		}
	}
}

func soldOut(t *testing.T, level, party int) {
	t.Helper()
	s, l := single(t, level), leg("BA", 1, 5)
	sold := 0
	for sold+party <= level {
		is(t, "Sell", s.Sell(l, 'Y', party), api.OK)
		sold += party
		has(t, s, l, 'Y', sold, level-sold)
	}
	for n := 1; n <= 9; n++ {
		if sold+n > level {
			is(t, "Sell of more than are left", s.Sell(l, 'Y', n), api.ErrSold)
			has(t, s, l, 'Y', sold, level-sold)
		}
	}
	if rest := level - sold; rest > 0 {
		is(t, "Sell of the rest", s.Sell(l, 'Y', rest), api.OK)
	}
	has(t, s, l, 'Y', level, 0)
	is(t, "Sell of one more", s.Sell(l, 'Y', 1), api.ErrSold)
	if level == 0 {
		return
	}
	is(t, "Cancel", s.Cancel(l, 'Y', 1), api.OK)
	is(t, "Sell of two where one is left", s.Sell(l, 'Y', 2), api.ErrSold)
	is(t, "Sell of the one", s.Sell(l, 'Y', 1), api.OK)
	has(t, s, l, 'Y', level, 0)
}

func TestCancelledToTheLastSeat(t *testing.T) {
	for _, level := range []int{1, 2, 8, 9, 10, 18, 400} {
		for party := 1; party <= 9; party++ {
			s, l := single(t, level), leg("BA", 1, 5)
			is(t, "Set", s.Set(l, 'Y', level), api.OK)
			sold := level
			for ; sold >= party; sold -= party {
				has(t, s, l, 'Y', sold, level-sold)
				is(t, "Cancel", s.Cancel(l, 'Y', party), api.OK)
			}
			for n := sold + 1; n <= 9; n++ {
				is(t, "Cancel of more than are sold", s.Cancel(l, 'Y', n), api.ErrState)
			}
			has(t, s, l, 'Y', sold, level-sold)
			if sold > 0 {
				is(t, "Cancel of the rest", s.Cancel(l, 'Y', sold), api.OK)
			}
			has(t, s, l, 'Y', 0, level)
			isText(t, "legs", names(s.Legs()), "")
		}
	}
}

func TestSetToEachNumber(t *testing.T) {
	for _, level := range []int{0, 1, 9, 10, 30, 400} {
		s, l := single(t, level), leg("BA", 1, 5)
		for n := range level + 1 {
			is(t, "Set", s.Set(l, 'Y', n), api.OK)
			has(t, s, l, 'Y', n, level-n)
		}
		for _, n := range []int{-1, level + 1, -2, level + 2, -400, 401, 1 << 31, 1 << 32, math.MinInt, math.MaxInt} {
			is(t, "Set outside of the level", s.Set(l, 'Y', n), api.ErrRange)
			has(t, s, l, 'Y', level, 0)
		}
		// The number itself, not one more or fewer than were sold.
		for _, n := range []int{level / 2, level, 0, 0, level, level} {
			is(t, "Set again", s.Set(l, 'Y', n), api.OK)
			has(t, s, l, 'Y', n, level-n)
		}
	}
}

func TestLevelOfNothing(t *testing.T) {
	s, l := single(t, 0), leg("BA", 1, 5)
	for n := 1; n <= 9; n++ {
		is(t, "Sell", s.Sell(l, 'Y', n), api.ErrSold)
		is(t, "Cancel", s.Cancel(l, 'Y', n), api.ErrState)
		is(t, "Set", s.Set(l, 'Y', n), api.ErrRange)
	}
	is(t, "Set to 0", s.Set(l, 'Y', 0), api.OK)
	has(t, s, l, 'Y', 0, 0)
	isText(t, "legs", names(s.Legs()), "")
}

// beside: legs and classes that are alike in all but one part of what tells them apart; those of a row are of one flight on one day.
func beside() (flights []api.Flight, legs []api.Leg, letters string) {
	classes := seats("CY", 9, 9)
	flights = []api.Flight{
		one("BA", 1, "LON", "PAR", 540, 600, classes), one("BA", 11, "LON", "PAR", 540, 600, classes), one("B1", 1, "LON", "PAR", 540, 600, classes), one("AB", 1, "LON", "PAR", 540, 600, classes),
	}
	for _, f := range flights {
		for _, day := range []int{0, 1, 11, 364, 365} {
			legs = append(legs, api.Leg{Key: f.Key, Day: day})
		}
	}
	return flights, legs, "CY"
}

func TestSideBySide(t *testing.T) {
	flights, legs, letters := beside()
	s := New(table(t, flights...))
	n := 0
	for range 2 {
		for _, l := range legs {
			for i := range len(letters) {
				is(t, "Sell", s.Sell(l, letters[i], 1+n%4), api.OK)
				n++
			}
		}
	}
	// 40 sales a round, so that in both rounds a class of a leg gets as many.
	n = 0
	for _, l := range legs {
		for i := range len(letters) {
			sold := 2 * (1 + n%4)
			has(t, s, l, letters[i], sold, 9-sold)
			n++
		}
	}
}

func TestAChangeOfOneIsNoneOfAnother(t *testing.T) {
	flights, legs, letters := beside()
	x := table(t, flights...)
	for _, changed := range legs {
		for i := range len(letters) {
			s := New(x)
			for _, l := range legs {
				is(t, "Set", s.Set(l, letters[0], 4), api.OK)
				is(t, "Set", s.Set(l, letters[1], 4), api.OK)
			}
			want := 4
			check := func(what string, e api.Errno, now int) {
				t.Helper()
				is(t, what, e, api.OK)
				want = now
				for _, l := range legs {
					for j := range len(letters) {
						if l == changed && j == i {
							has(t, s, l, letters[j], want, 9-want)
						} else {
							has(t, s, l, letters[j], 4, 5)
						}
					}
				}
			}
			check("Sell", s.Sell(changed, letters[i], 3), 7)
			check("Cancel", s.Cancel(changed, letters[i], 6), 1)
			check("Set", s.Set(changed, letters[i], 9), 9)
			check("Set to 0", s.Set(changed, letters[i], 0), 0)
		}
	}
}

// Wrong inputs.

// wrong: a leg or a class in which nothing may be sold, and what Level says of it.
type wrong struct {
	leg   api.Leg
	class byte
	want  api.Errno
}

// wrongs: of BA1, which flies on the weekdays 1 and 7 with the classes C and Y.
func wrongs() []wrong {
	var out []wrong
	none := func(legs ...api.Leg) {
		for _, l := range legs {
			// A class that the flight has, one that it hasn't, and what is no class.
			out = append(out, wrong{l, 'Y', api.ErrNone}, wrong{l, 'F', api.ErrNone}, wrong{l, 0, api.ErrNone})
		}
	}
	none(api.Leg{}, leg("BA", 2, 0), leg("BA", 0, 0), leg("BA", -1, 0), leg("BB", 1, 0), leg("", 1, 0), leg("ba", 1, 0), leg("BA ", 1, 0), leg("BA", 1<<32+1, 0), leg("BA", math.MinInt, 0))
	none(leg("BA", 1, 1), leg("BA", 1, 2), leg("BA", 1, 5), leg("BA", 1, 362), leg("BA", 1, 365))
	for _, day := range noDays() {
		none(leg("BA", 1, day))
	}
	for n := range 256 {
		if n != 'C' && n != 'Y' {
			out = append(out, wrong{leg("BA", 1, 0), byte(n), api.ErrClass}, wrong{leg("BA", 1, 363), byte(n), api.ErrClass})
		}
	}
	return out
}

func sparse(t *testing.T) *Stock {
	t.Helper()
	s := New(table(t, onDays(one("BA", 1, "LON", "PAR", 540, 600, seats("CY", 4, 9)), 65), one("U2", 7, "LON", "PAR", 540, 600, seats("F", 9))))
	is(t, "Set", s.Set(leg("BA", 1, 0), 'Y', 5), api.OK)
	is(t, "Set", s.Set(leg("BA", 1, 363), 'C', 4), api.OK)
	return s
}

// asItWas: of a sparse one, behind what was refused.
func asItWas(t *testing.T, s *Stock) {
	t.Helper()
	has(t, s, leg("BA", 1, 0), 'Y', 5, 4)
	has(t, s, leg("BA", 1, 0), 'C', 0, 4)
	has(t, s, leg("BA", 1, 363), 'Y', 0, 9)
	has(t, s, leg("BA", 1, 363), 'C', 4, 0)
	isText(t, "legs", names(s.Legs()), "BA1.0 BA1.363")
}

func TestWrongLegsAndClasses(t *testing.T) {
	s := sparse(t)
	for _, x := range wrongs() {
		has(t, s, x.leg, x.class, 0, 0)
		for n := 1; n <= 9; n++ {
			is(t, "Sell", s.Sell(x.leg, x.class, n), x.want)
			is(t, "Cancel", s.Cancel(x.leg, x.class, n), x.want)
		}
		for n := range 11 {
			is(t, "Set", s.Set(x.leg, x.class, n), x.want)
		}
		has(t, s, x.leg, x.class, 0, 0)
	}
	asItWas(t, s)
}

// Sell and Cancel ask first how many, then where; Set asks where first.
func TestWrongInTwoWays(t *testing.T) {
	s := sparse(t)
	for _, x := range wrongs() {
		for _, n := range noParty() {
			is(t, "Sell", s.Sell(x.leg, x.class, n), api.ErrRange)
			is(t, "Cancel", s.Cancel(x.leg, x.class, n), api.ErrRange)
		}
		for _, n := range []int{-1, 401, math.MinInt, math.MaxInt} {
			is(t, "Set", s.Set(x.leg, x.class, n), x.want)
		}
	}
	asItWas(t, s)
}

func TestWrongNumbers(t *testing.T) {
	s := sparse(t)
	for _, x := range []struct {
		leg   api.Leg
		class byte
		level int
	}{{leg("BA", 1, 0), 'Y', 9}, {leg("BA", 1, 0), 'C', 4}, {leg("BA", 1, 363), 'C', 4}, {leg("BA", 1, 363), 'Y', 9}} {
		// So also where nothing is left or sold, or not so many.
		for _, n := range noParty() {
			is(t, "Sell", s.Sell(x.leg, x.class, n), api.ErrRange)
			is(t, "Cancel", s.Cancel(x.leg, x.class, n), api.ErrRange)
		}
		for _, n := range []int{-1, x.level + 1, math.MinInt, math.MaxInt} {
			is(t, "Set", s.Set(x.leg, x.class, n), api.ErrRange)
		}
	}
	for n := 5; n <= 9; n++ {
		is(t, "Sell of more than are left", s.Sell(leg("BA", 1, 0), 'Y', n), api.ErrSold)
		is(t, "Sell of more than the level", s.Sell(leg("BA", 1, 0), 'C', n), api.ErrSold)
		is(t, "Cancel of more than are sold", s.Cancel(leg("BA", 1, 363), 'C', n), api.ErrState)
		is(t, "Cancel where nothing is sold", s.Cancel(leg("BA", 1, 0), 'C', n), api.ErrState)
	}
	is(t, "Sell of one more", s.Sell(leg("BA", 1, 363), 'C', 1), api.ErrSold)
	is(t, "Cancel of one more", s.Cancel(leg("BA", 1, 0), 'Y', 6), api.ErrState)
	asItWas(t, s)
}

// Sell and Cancel of each number, from each that is sold.
func TestEachPartyFromEachNumberSold(t *testing.T) {
	const level = 12
	s, l := single(t, level), leg("BA", 1, 5)
	for sold := range level + 1 {
		for n := -2; n <= 11; n++ {
			sell, cancel := api.OK, api.OK
			afterSell, afterCancel := sold+n, sold-n
			if afterSell > level {
				sell, afterSell = api.ErrSold, sold
			}
			if afterCancel < 0 {
				cancel, afterCancel = api.ErrState, sold
			}
			if n < 1 || n > 9 {
				sell, cancel, afterSell, afterCancel = api.ErrRange, api.ErrRange, sold, sold
			}
			is(t, "Set", s.Set(l, 'Y', sold), api.OK)
			is(t, "Sell", s.Sell(l, 'Y', n), sell)
			has(t, s, l, 'Y', afterSell, level-afterSell)
			is(t, "Set", s.Set(l, 'Y', sold), api.OK)
			is(t, "Cancel", s.Cancel(l, 'Y', n), cancel)
			has(t, s, l, 'Y', afterCancel, level-afterCancel)
		}
	}
}

// Legs.

// inTheirOrder: digits stand ahead of letters in the carriers; numbers and days go by what they are, not by their digits.
const inTheirOrder = "0A9999.3 7U8.365 7U9.0 A91.5 AA2.5 AA2.40 AA2.365 BA3.0 BA3.1 BA3.2 BA3.10 BA3.11 BA3.100 BA10.0 BA10.9 BA10.10 BA100.7 BB1.1 U21.6 ZZ1.0"

func manyFlights() []api.Flight {
	var out []api.Flight
	add := func(carrier string, number int) {
		// Neither by Depart nor by cities: those go the other way round.
		out = append(out, one(carrier, number, []string{"PAR", "LON"}[len(out)%2], "ROM", 900-len(out), 1000, seats("CFY", 9, 9, 9)))
	}
	add("0A", 9999)
	add("7U", 8)
	add("7U", 9)
	add("A9", 1)
	add("AA", 2)
	add("BA", 3)
	add("BA", 10)
	add("BA", 100)
	add("BB", 1)
	add("U2", 1)
	add("ZZ", 1)
	return out
}

func read(text string) []api.Leg {
	var out []api.Leg
	for _, s := range strings.Fields(text) {
		number, day, _ := strings.Cut(s[2:], ".")
		n, _ := strconv.Atoi(number)
		d, _ := strconv.Atoi(day)
		out = append(out, leg(s[:2], n, d))
	}
	return out
}

func TestLegsInTheirOrder(t *testing.T) {
	draw := rand.New(rand.NewSource(10))
	legs := read(inTheirOrder)
	isText(t, "the text of the legs", names(legs), inTheirOrder)
	x := table(t, manyFlights()...)
	for range 200 {
		s := New(x)
		draw.Shuffle(len(legs), func(i, j int) { legs[i], legs[j] = legs[j], legs[i] })
		for _, l := range legs {
			// Of several classes too: a leg is told once.
			for _, class := range "CFY"[draw.Intn(3):] {
				is(t, "Sell", s.Sell(l, byte(class), 1+draw.Intn(9)), api.OK)
			}
		}
		isText(t, "legs", names(s.Legs()), inTheirOrder)
		isText(t, "legs asked again", names(s.Legs()), inTheirOrder)
		isText(t, "legs of a copy", names(s.Copy().Legs()), inTheirOrder)
	}
}

func TestLegsThatAreGoneAgain(t *testing.T) {
	s := New(table(t, manyFlights()...))
	a, b := leg("BA", 3, 10), leg("AA", 2, 40)
	step := func(what string, e api.Errno, want string) {
		t.Helper()
		is(t, what, e, api.OK)
		isText(t, "legs behind "+what, names(s.Legs()), want)
	}
	step("Set to 0 of nothing", s.Set(a, 'Y', 0), "")
	step("Sell", s.Sell(a, 'Y', 9), "BA3.10")
	step("Sell of another leg", s.Sell(b, 'C', 1), "AA2.40 BA3.10")
	step("Sell of another class", s.Sell(a, 'C', 2), "AA2.40 BA3.10")
	step("Cancel of some", s.Cancel(a, 'Y', 8), "AA2.40 BA3.10")
	step("Cancel of the last one of a class", s.Cancel(a, 'Y', 1), "AA2.40 BA3.10")
	step("Cancel of the last one of the leg", s.Cancel(a, 'C', 2), "AA2.40")
	step("Set", s.Set(a, 'F', 1), "AA2.40 BA3.10")
	step("Set to 0 of another class", s.Set(a, 'C', 0), "AA2.40 BA3.10")
	step("Set to 0", s.Set(b, 'C', 0), "BA3.10")
	step("Set to 0 of the other", s.Set(a, 'F', 0), "")
	step("Sell again", s.Sell(a, 'Y', 1), "BA3.10")
	step("Set to 0 again", s.Set(a, 'Y', 0), "")
	step("Set to 0 twice", s.Set(a, 'Y', 0), "")
	if len(s.sold) != 0 {
		t.Error("nothing is sold, and kept is", s.sold)
	}
}

// Asking sells nothing.
func TestAskingIsNotSelling(t *testing.T) {
	s := New(table(t, manyFlights()...))
	for _, l := range read(inTheirOrder) {
		has(t, s, l, 'Y', 0, 9)
		is(t, "Cancel", s.Cancel(l, 'Y', 1), api.ErrState)
		s.Avail(l.Day, "LON", "ROM")
	}
	isText(t, "legs", names(s.Legs()), "")
	if len(s.sold) != 0 {
		t.Error("nothing is sold, and kept is", s.sold)
	}
}

func TestEveryDayOfAFlight(t *testing.T) {
	s := single(t, 400)
	for day := 365; day >= 0; day-- {
		is(t, "Set", s.Set(leg("BA", 1, day), 'Y', day+1), api.OK)
	}
	legs := s.Legs()
	if len(legs) != 366 {
		t.Fatal("legs of all days:", len(legs))
	}
	for day, l := range legs {
		if l != leg("BA", 1, day) {
			t.Errorf("the leg %d is %v", day, l)
		}
		has(t, s, l, 'Y', day+1, 399-day)
	}
}
