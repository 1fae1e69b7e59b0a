package hold

import (
	"math"
	"math/rand"
	"reflect"
	"strconv"
	"strings"
	"testing"

	"jetway/api"
	"jetway/flight"
	"jetway/plan"
)

// one: a flight that is right, flies every day and has the map at that place.
func one(carrier string, number, place int) api.Flight {
	return api.Flight{
		Key: api.Key{Carrier: carrier, Number: number}, From: "LON", To: "PAR", Days: 127, Depart: 540, Arrive: 600,
		Classes: []api.Class{{Letter: 'Y', Level: 9}}, Plan: place,
	}
}

func onDays(f api.Flight, days uint8) api.Flight {
	f.Days = days
	return f
}

func table(t *testing.T, flights ...api.Flight) *flight.Table {
	t.Helper()
	x, e := flight.New(flights...)
	if e != api.OK {
		t.Fatal("flight.New:", e)
	}
	return x
}

// cabin: the map of those rows and letters, without the blocked seats.
func cabin(t *testing.T, first, last int, letters string, blocked ...api.Seat) *plan.Map {
	t.Helper()
	m, e := plan.New(api.Plan{First: first, Last: last, Letters: letters, Blocked: blocked})
	if e != api.OK {
		t.Fatal("plan.New:", e)
	}
	return m
}

// two: of BA1 and BA2, which fly every day, with the rows 1 to 12 of AB.C but for 1B and 12C.
func two(t *testing.T) *Book {
	t.Helper()
	return New(table(t, one("BA", 1, 0), one("BA", 2, 0)), cabin(t, 1, 12, "AB.C", seat("1B"), seat("12C")))
}

func leg(carrier string, number, day int) api.Leg {
	return api.Leg{Key: api.Key{Carrier: carrier, Number: number}, Day: day}
}

// seat: of such a text as 12C, and of 0A and -1A, too.
func seat(s string) api.Seat {
	last := len(s) - 1
	row, _ := strconv.Atoi(s[:last])
	return api.Seat{Row: row, Letter: s[last]}
}

// holder: of such a text as ABCDEF1.
func holder(s string) api.Holder {
	last := len(s) - 1
	return api.Holder{Locator: s[:last], Pax: int(s[last] - '0')}
}

func is(t *testing.T, what string, got, want api.Errno) {
	t.Helper()
	if got != want {
		t.Errorf("%s: %v, not %v", what, got, want)
	}
}

func isText(t *testing.T, what, got, want string) {
	t.Helper()
	if got != want {
		t.Errorf("%s: %q, not %q", what, got, want)
	}
}

func names(legs []api.Leg) string {
	var out []string
	for _, l := range legs {
		out = append(out, l.Key.Carrier+strconv.Itoa(l.Key.Number)+"."+strconv.Itoa(l.Day))
	}
	return strings.Join(out, " ")
}

// told: the seats with their holders as a text.
func told(held []api.Held) string {
	var out []string
	for _, h := range held {
		out = append(out, plan.Text(h.Seat)+":"+h.Holder.Locator+strconv.Itoa(h.Holder.Pax))
	}
	return strings.Join(out, " ")
}

// whose: does Who tell that holder?
func whose(t *testing.T, b *Book, l api.Leg, s api.Seat, want api.Holder) {
	t.Helper()
	if h, held := b.Who(l, s); h != want || !held {
		t.Errorf("%v of %s is of %v, %v, not of %v", s, names([]api.Leg{l}), h, held, want)
	}
}

func nobodys(t *testing.T, b *Book, l api.Leg, s api.Seat) {
	t.Helper()
	if h, held := b.Who(l, s); h != (api.Holder{}) || held {
		t.Errorf("%v of %s is of %v, %v, not nobody's", s, names([]api.Leg{l}), h, held)
	}
}

// noDays: numbers that are no days, some of which would be days if they wrapped round.
func noDays() []int {
	return []int{-1, -7, -366, 366, 367, 371, 1 << 31, 1 << 32, 1<<32 + 5, math.MinInt, math.MaxInt}
}

// noSeats: what no map has, some of which would be seats of one if they wrapped round.
func noSeats() []api.Seat {
	out := []api.Seat{{}, seat("0A"), seat("-1A"), seat("61A"), seat("99A"), {Row: 1}, {Row: 1 << 8, Letter: 'A'}, {Row: 1<<8 + 1, Letter: 'A'}}
	out = append(out, api.Seat{Row: 1<<32 + 1, Letter: 'A'}, api.Seat{Row: math.MinInt, Letter: 'A'}, api.Seat{Row: math.MaxInt, Letter: 'A'})
	for _, c := range []byte(".@[a 1\x00\xc1\xff") {
		out = append(out, api.Seat{Row: 1, Letter: c})
	}
	return out
}

// The examples.

func TestExample(t *testing.T) {
	b, l := two(t), leg("BA", 1, 5)
	x1, x2 := holder("X1"), holder("X2")
	is(t, "Take(l, 1A, X 1)", b.Take(l, seat("1A"), x1), api.OK)
	is(t, "again", b.Take(l, seat("1A"), x1), api.ErrTwice)
	is(t, "Take(l, 1A, X 2)", b.Take(l, seat("1A"), x2), api.ErrTaken)
	is(t, "Free(l, 1A, X 2)", b.Free(l, seat("1A"), x2), api.ErrState)
	whose(t, b, l, seat("1A"), x1)
	is(t, "Free(l, 1A, X 1)", b.Free(l, seat("1A"), x1), api.OK)
	nobodys(t, b, l, seat("1A"))
}

// P11.1.

func TestOfANewOneNoSeatIsAnybodys(t *testing.T) {
	b := two(t)
	for day := range 366 {
		l := leg("BA", 1, day)
		for row := 1; row <= 12; row++ {
			for _, c := range []byte("ABC") {
				s := api.Seat{Row: row, Letter: c}
				nobodys(t, b, l, s)
				if want := s != seat("1B") && s != seat("12C"); b.Has(l, s) != want {
					t.Errorf("Has of %v is %v", s, !want)
				}
			}
		}
		isText(t, "On", told(b.On(l)), "")
	}
	isText(t, "Legs", names(b.Legs()), "")
}

func TestOfNoFlightAndOfNoMap(t *testing.T) {
	m := cabin(t, 1, 9, "A")
	for what, b := range map[string]*Book{"no flight": New(table(t), m), "nothing": New(table(t))} {
		l := leg("BA", 1, 5)
		is(t, what+": Take", b.Take(l, seat("1A"), holder("X1")), api.ErrNone)
		is(t, what+": Free", b.Free(l, seat("1A"), holder("X1")), api.ErrNone)
		isEmpty(t, b, l, seat("1A"))
	}
	b, l := New(table(t, one("BA", 1, 0))), leg("BA", 1, 5)
	is(t, "no map: Take", b.Take(l, seat("1A"), holder("X1")), api.ErrSeat)
	is(t, "no map: Free", b.Free(l, seat("1A"), holder("X1")), api.ErrSeat)
	isEmpty(t, b, l, seat("1A"))
}

// isEmpty: there is no such seat, and nobody's are all.
func isEmpty(t *testing.T, b *Book, l api.Leg, s api.Seat) {
	t.Helper()
	if b.Has(l, s) {
		t.Errorf("%s has %v", names([]api.Leg{l}), s)
	}
	nobodys(t, b, l, s)
	isText(t, "On", told(b.On(l)), "")
	isText(t, "Legs", names(b.Legs()), "")
}

// Each map has a row of its own, so that a seat tells which one it is of.
func TestAFlightHasTheMapAtItsPlan(t *testing.T) {
	var flights []api.Flight
	for place := range 8 {
		flights = append(flights, one("BA", 100-place, place))
	}
	x := table(t, flights...)
	var maps []*plan.Map
	for place := range 10 { // two more than any flight may ask for
		maps = append(maps, cabin(t, place+1, place+1, "A"))
	}
	for n := range len(maps) + 1 {
		b := New(x, maps[:n]...)
		for place := range 8 {
			l := leg("BA", 100-place, 5)
			for row := 1; row <= 10; row++ {
				s := api.Seat{Row: row, Letter: 'A'}
				want := row == place+1 && place < n
				if got := b.Has(l, s); got != want {
					t.Errorf("of %d maps, the plan %d, row %d: Has is %v", n, place, row, got)
				}
				e := api.ErrSeat
				if want {
					e = api.OK
				}
				is(t, "Take", b.Take(l, s, holder("X1")), e)
			}
		}
	}
}

// No flight of a table has a place below 0.
func TestNoPlanIsBelowNought(t *testing.T) {
	for _, place := range []int{-1, math.MinInt, 8} {
		if _, e := flight.New(one("BA", 1, place)); e != api.ErrForm {
			t.Errorf("flight.New of the plan %d: %v", place, e)
		}
	}
}

// Several flights may have one map, and one map may stand at several places.
func TestAMapOfSeveralFlights(t *testing.T) {
	m := cabin(t, 1, 2, "AB")
	b := New(table(t, one("BA", 1, 0), one("BA", 2, 0), one("BA", 3, 1)), m, m)
	for n := 1; n <= 3; n++ {
		is(t, "Take", b.Take(leg("BA", n, 5), seat("2B"), api.Holder{Locator: "X", Pax: n}), api.OK)
	}
	for n := 1; n <= 3; n++ {
		isText(t, "On", told(b.On(leg("BA", n, 5))), "2B:X"+strconv.Itoa(n))
	}
}

func TestHasOfEachWeekday(t *testing.T) {
	for w := range 7 {
		b := New(table(t, onDays(one("BA", 1, 0), 1<<w)), cabin(t, 1, 9, "A"))
		for day := range 366 {
			l, flies := leg("BA", 1, day), day%7 == w
			if got := b.Has(l, seat("9A")); got != flies {
				t.Errorf("on the day %d of the weekday %d: Has is %v", day, w+1, got)
			}
			want := api.ErrNone
			if flies {
				want = api.OK
			}
			is(t, "Take", b.Take(l, seat("9A"), holder("X1")), want)
		}
		for _, day := range noDays() {
			if b.Has(leg("BA", 1, day), seat("9A")) {
				t.Error("has a seat on no day:", day)
			}
		}
	}
}

func TestHasOfWhatIsNoSeat(t *testing.T) {
	m := cabin(t, 1, 60, "ABCDEFGHJK", seat("1B"), seat("60K"))
	b, l := New(table(t, one("BA", 1, 0)), m), leg("BA", 1, 5)
	for row := range 70 {
		for c := range 256 {
			s := api.Seat{Row: row, Letter: byte(c)}
			if got, want := b.Has(l, s), m.Has(s); got != want {
				t.Errorf("Has of %v is %v", s, got)
			}
		}
	}
	for _, s := range append(noSeats(), seat("1B"), seat("60K"), seat("1I")) {
		isEmpty(t, b, l, s)
	}
	for _, s := range []api.Seat{seat("1A"), seat("1C"), seat("60A"), seat("60J")} {
		if !b.Has(l, s) {
			t.Errorf("Has of %v is false", s)
		}
	}
}

// P11.2.

func TestTakeAndFreeInTheOrderOfErrors(t *testing.T) {
	b := New(table(t, onDays(one("BA", 1, 0), 1), one("BA", 2, 1)), cabin(t, 1, 9, "ABC", seat("1B")))
	l, me, you := leg("BA", 1, 7), holder("ABCDEF1"), holder("ABCDEF2")
	is(t, "Take", b.Take(l, seat("1A"), me), api.OK)
	is(t, "Take", b.Take(l, seat("1C"), you), api.OK)
	// With each leg that doesn't fly, seats that the flight has and hasn't.
	off := []api.Leg{{}, leg("BA", 3, 7), leg("XX", 1, 7), leg("ba", 1, 7), leg("", 1, 7), leg("BA", 1, 6), leg("BA", 1, 8), leg("BA", -1, 7), leg("BA", 1<<32+1, 7)}
	for _, day := range noDays() {
		off = append(off, leg("BA", 1, day))
	}
	for _, no := range off {
		for _, s := range append(noSeats(), seat("1A"), seat("1B"), seat("1C"), seat("2A")) {
			is(t, "Take of no leg", b.Take(no, s, me), api.ErrNone)
			is(t, "Free of no leg", b.Free(no, s, me), api.ErrNone)
			nobodys(t, b, no, s)
			if b.Has(no, s) || len(b.On(no)) > 0 {
				t.Error("there is something on", no)
			}
		}
	}
	for _, s := range append(noSeats(), seat("1B"), seat("10A"), seat("1D")) {
		is(t, "Take of no seat", b.Take(l, s, me), api.ErrSeat)
		is(t, "Free of no seat", b.Free(l, s, me), api.ErrSeat)
		nobodys(t, b, l, s)
	}
	// Of a flight whose map there isn't.
	is(t, "Take of no map", b.Take(leg("BA", 2, 7), seat("1A"), me), api.ErrSeat)
	is(t, "Free of no map", b.Free(leg("BA", 2, 7), seat("1A"), me), api.ErrSeat)
	is(t, "Take of one's own", b.Take(l, seat("1A"), me), api.ErrTwice)
	is(t, "Take of somebody else's", b.Take(l, seat("1C"), me), api.ErrTaken)
	is(t, "Free of somebody else's", b.Free(l, seat("1C"), me), api.ErrState)
	is(t, "Free of nobody's", b.Free(l, seat("2A"), me), api.ErrState)
	is(t, "Free of nobody's by the zero holder", b.Free(l, seat("2A"), api.Holder{}), api.ErrState)
	isText(t, "what was refused has changed nothing", told(b.On(l)), "1A:ABCDEF1 1C:ABCDEF2")
	isText(t, "nor the legs", names(b.Legs()), "BA1.7")
	is(t, "Free", b.Free(l, seat("1A"), me), api.OK)
	is(t, "Free again", b.Free(l, seat("1A"), me), api.ErrState)
	is(t, "Take again", b.Take(l, seat("1A"), you), api.OK)
	isText(t, "On", told(b.On(l)), "1A:ABCDEF2 1C:ABCDEF2")
}

// holders: such as differ in one part alone, and such as no passenger is.
func holders() []api.Holder {
	return []api.Holder{
		{}, {Pax: 1}, {Locator: "ABCDEF"}, holder("ABCDEF1"), holder("ABCDEF2"), holder("ABCDEG1"), holder("ABCDE1"), holder("ABCDEF 1"), holder("abcdef1"),
		{Pax: -1}, {Pax: math.MinInt}, {Pax: math.MaxInt}, {Pax: 1<<32 + 1}, {Locator: "\x00"}, {Locator: "\xff\xfe", Pax: 1}, {Locator: strings.Repeat("A", 5000), Pax: 1},
	}
}

func TestHoldersAreTakenAsTheyAre(t *testing.T) {
	b, l, s := two(t), leg("BA", 1, 5), seat("3A")
	for i, h := range holders() {
		is(t, "Take", b.Take(l, s, h), api.OK)
		whose(t, b, l, s, h)
		if got := b.On(l); !reflect.DeepEqual(got, []api.Held{{Seat: s, Holder: h}}) {
			t.Errorf("On is %v", got)
		}
		isText(t, "legs", names(b.Legs()), "BA1.5")
		for j, other := range holders() {
			take, free := api.ErrTaken, api.ErrState
			if i == j {
				take, free = api.ErrTwice, api.OK
			}
			is(t, "Take of one that is held", b.Take(l, s, other), take)
			is(t, "Free of one that is held", b.Free(l, s, other), free)
			if i == j {
				nobodys(t, b, l, s)
				isText(t, "legs", names(b.Legs()), "")
				is(t, "Take again", b.Take(l, s, h), api.OK)
			}
			whose(t, b, l, s, h)
		}
		is(t, "Free", b.Free(l, s, h), api.OK)
	}
}

func TestTheFirstAndTheLastSeat(t *testing.T) {
	m := cabin(t, 3, 60, "ABC.DEF.GHJ")
	b, l := New(table(t, one("BA", 1, 0)), m), leg("BA", 1, 365)
	seats := m.Seats()
	first, last := seats[0], seats[len(seats)-1]
	if first != seat("3A") || last != seat("60J") {
		t.Fatal("the seats are", seats)
	}
	is(t, "Take of the last", b.Take(l, last, holder("X1")), api.OK)
	is(t, "Take of the first", b.Take(l, first, holder("Y2")), api.OK)
	isText(t, "On", told(b.On(l)), "3A:Y2 60J:X1")
	is(t, "Take of the last by another", b.Take(l, last, holder("Y2")), api.ErrTaken)
	is(t, "Free of the first", b.Free(l, first, holder("Y2")), api.OK)
	is(t, "Free of the last", b.Free(l, last, holder("X1")), api.OK)
	isText(t, "On", told(b.On(l)), "")
}

func TestASeatGoesFromOneToAnother(t *testing.T) {
	b, l, s := two(t), leg("BA", 1, 5), seat("2B")
	for pax := range 9 {
		h := api.Holder{Locator: "ABCDEF", Pax: pax}
		is(t, "Take", b.Take(l, s, h), api.OK)
		is(t, "Take by the next one", b.Take(l, s, api.Holder{Locator: "ABCDEF", Pax: pax + 1}), api.ErrTaken)
		whose(t, b, l, s, h)
		is(t, "Free", b.Free(l, s, h), api.OK)
		nobodys(t, b, l, s)
	}
	if len(b.held) != 0 {
		t.Error("nothing is held, and kept is", b.held)
	}
}

// A holder may have many seats: of one leg too.
func TestManySeatsOfOneHolder(t *testing.T) {
	b, h := two(t), holder("ABCDEF1")
	for _, l := range []api.Leg{leg("BA", 1, 5), leg("BA", 1, 6), leg("BA", 2, 5)} {
		for _, s := range []string{"2C", "1A", "12A"} {
			is(t, "Take", b.Take(l, seat(s), h), api.OK)
			is(t, "Take again", b.Take(l, seat(s), h), api.ErrTwice)
		}
		isText(t, "On", told(b.On(l)), "1A:ABCDEF1 2C:ABCDEF1 12A:ABCDEF1")
	}
	is(t, "Free", b.Free(leg("BA", 1, 6), seat("2C"), h), api.OK)
	isText(t, "On behind it", told(b.On(leg("BA", 1, 6))), "1A:ABCDEF1 12A:ABCDEF1")
}

// P11.4.

func TestOneSeatOfSeveralLegs(t *testing.T) {
	b := New(table(t, one("BA", 1, 0), one("BA", 11, 0), one("AB", 1, 0)), cabin(t, 1, 11, "AB"))
	legs := []api.Leg{leg("BA", 1, 5), leg("BA", 1, 6), leg("BA", 1, 15), leg("BA", 11, 5), leg("AB", 1, 5)}
	seats := []string{"1A", "1B", "11A"}
	for i, l := range legs {
		for j, s := range seats {
			is(t, "Take", b.Take(l, seat(s), api.Holder{Locator: "X", Pax: 10*i + j}), api.OK)
		}
	}
	all := func() {
		t.Helper()
		for i, l := range legs {
			for j, s := range seats {
				whose(t, b, l, seat(s), api.Holder{Locator: "X", Pax: 10*i + j})
			}
		}
	}
	all()
	for i, l := range legs {
		for j, s := range seats {
			h := api.Holder{Locator: "X", Pax: 10*i + j}
			is(t, "Free", b.Free(l, seat(s), h), api.OK)
			nobodys(t, b, l, seat(s))
			is(t, "Take again", b.Take(l, seat(s), h), api.OK)
			all()
		}
	}
}

// P11.3.

func TestOnWithSeatsTakenInAnyOrder(t *testing.T) {
	draw := rand.New(rand.NewSource(11))
	blocked := []api.Seat{seat("2B"), seat("9C"), seat("10A")}
	m := cabin(t, 2, 11, "AB.CZ", blocked...)
	x, l := table(t, one("BA", 1, 0), one("BA", 2, 0)), leg("BA", 1, 5)
	var want []api.Held
	for row := 2; row <= 11; row++ {
		for i, c := range []byte("ABCZ") {
			if s := (api.Seat{Row: row, Letter: c}); s != blocked[0] && s != blocked[1] && s != blocked[2] {
				want = append(want, api.Held{Seat: s, Holder: api.Holder{Locator: "X", Pax: 100 - 4*row + i}})
			}
		}
	}
	if len(want) != 37 {
		t.Fatal("seats:", len(want))
	}
	for range 100 {
		b := New(x, m)
		order := draw.Perm(len(want))
		for _, i := range order {
			is(t, "Take", b.Take(l, want[i].Seat, want[i].Holder), api.OK)
			is(t, "Take of another flight", b.Take(leg("BA", 2, 5), want[i].Seat, holder("Y1")), api.OK)
		}
		if got := b.On(l); !reflect.DeepEqual(got, want) {
			t.Fatalf("On is %v, not %v", got, want)
		}
		// And behind some that are freed.
		n := draw.Intn(len(want))
		gone := map[int]bool{}
		for _, i := range order[:n] {
			is(t, "Free", b.Free(l, want[i].Seat, want[i].Holder), api.OK)
			gone[i] = true
		}
		var left []api.Held
		for i, h := range want {
			if !gone[i] {
				left = append(left, h)
			}
		}
		if got := b.On(l); !reflect.DeepEqual(got, left) {
			t.Fatalf("On behind some freed is %v, not %v", got, left)
		}
		if got := b.On(leg("BA", 2, 5)); len(got) != len(want) {
			t.Fatalf("of the other flight %d are held", len(got))
		}
	}
}

// The legs in their order: by carriers, then by numbers, then by days, and so by what they are, not by their digits.
const inTheirOrder = "0A9999.3 7U8.365 7U9.0 A91.5 AA2.5 AA2.40 AA2.365 BA3.0 BA3.1 BA3.2 BA3.10 BA3.11 BA3.100 BA10.0 BA10.9 BA10.10 BA100.7 BB1.1 U21.6 ZZ1.0"

func manyFlights() []api.Flight {
	return []api.Flight{
		one("ZZ", 1, 0), one("0A", 9999, 0), one("7U", 8, 0), one("7U", 9, 0), one("BA", 10, 0), one("A9", 1, 0),
		one("AA", 2, 0), one("BA", 3, 0), one("BA", 100, 0), one("BB", 1, 0), one("U2", 1, 0),
	}
}

func read(text string) []api.Leg {
	var out []api.Leg
	for _, s := range strings.Fields(text) {
		number, day, _ := strings.Cut(s[2:], ".")
		n, _ := strconv.Atoi(number)
		d, _ := strconv.Atoi(day)
		out = append(out, leg(s[:2], n, d))
	}
	return out
}

func TestLegsInTheirOrder(t *testing.T) {
	draw := rand.New(rand.NewSource(10))
	legs := read(inTheirOrder)
	isText(t, "the text of the legs", names(legs), inTheirOrder)
	x, m := table(t, manyFlights()...), cabin(t, 1, 3, "AB")
	seats := m.Seats()
	for range 200 {
		b := New(x, m)
		draw.Shuffle(len(legs), func(i, j int) { legs[i], legs[j] = legs[j], legs[i] })
		for i, l := range legs {
			// Of several seats too: a leg is told once.
			for _, s := range seats[draw.Intn(len(seats)):] {
				is(t, "Take", b.Take(l, s, api.Holder{Locator: "X", Pax: i}), api.OK)
			}
		}
		isText(t, "legs", names(b.Legs()), inTheirOrder)
		isText(t, "legs asked again", names(b.Legs()), inTheirOrder)
		isText(t, "legs of a copy", names(b.Copy().Legs()), inTheirOrder)
	}
}

func TestLegsThatAreGoneAgain(t *testing.T) {
	b := New(table(t, manyFlights()...), cabin(t, 1, 3, "AB"))
	l, m, h := leg("BA", 3, 10), leg("AA", 2, 40), holder("X1")
	step := func(what string, e api.Errno, want string) {
		t.Helper()
		is(t, what, e, api.OK)
		isText(t, "legs behind "+what, names(b.Legs()), want)
	}
	step("Take", b.Take(l, seat("1A"), h), "BA3.10")
	step("Take of another leg", b.Take(m, seat("1A"), h), "AA2.40 BA3.10")
	step("Take of another seat", b.Take(l, seat("3B"), holder("Y2")), "AA2.40 BA3.10")
	step("Free of one of two", b.Free(l, seat("1A"), h), "AA2.40 BA3.10")
	step("Free of the last one", b.Free(l, seat("3B"), holder("Y2")), "AA2.40")
	step("Take again", b.Take(l, seat("2A"), h), "AA2.40 BA3.10")
	step("Free of the other leg's", b.Free(m, seat("1A"), h), "BA3.10")
	step("Free of the last of all", b.Free(l, seat("2A"), h), "")
	step("Take behind that", b.Take(m, seat("2B"), h), "AA2.40")
	step("Free behind that", b.Free(m, seat("2B"), h), "")
	if len(b.held) != 0 {
		t.Error("nothing is held, and kept is", b.held)
	}
}

func TestEveryDayOfAFlight(t *testing.T) {
	b := two(t)
	for day := 365; day >= 0; day-- {
		is(t, "Take", b.Take(leg("BA", 1, day), seat("7C"), api.Holder{Locator: "X", Pax: day}), api.OK)
	}
	legs := b.Legs()
	if len(legs) != 366 {
		t.Fatal("legs of all days:", len(legs))
	}
	for day, l := range legs {
		if l != leg("BA", 1, day) {
			t.Errorf("the leg %d is %v", day, l)
		}
		whose(t, b, l, seat("7C"), api.Holder{Locator: "X", Pax: day})
		isText(t, "On", told(b.On(l)), "7C:X"+strconv.Itoa(day))
	}
}

// Asking takes nothing.
func TestAskingIsNotTaking(t *testing.T) {
	b := two(t)
	for day := range 366 {
		l := leg("BA", 1, day)
		nobodys(t, b, l, seat("1A"))
		b.Has(l, seat("1A"))
		b.On(l)
		is(t, "Free", b.Free(l, seat("1A"), holder("X1")), api.ErrState)
	}
	isText(t, "legs", names(b.Legs()), "")
	if len(b.held) != 0 {
		t.Error("nothing is held, and kept is", b.held)
	}
}

func TestCopyBeforeAndBehindChanges(t *testing.T) {
	b, l, m := two(t), leg("BA", 1, 5), leg("BA", 2, 6)
	h, other := holder("X1"), holder("Y2")
	empty := b.Copy()
	is(t, "Take in the first", b.Take(l, seat("1A"), h), api.OK)
	nobodys(t, empty, l, seat("1A"))
	isText(t, "legs of the copy", names(empty.Legs()), "")
	c := b.Copy()
	isText(t, "On of the second copy", told(c.On(l)), "1A:X1")
	isText(t, "legs of the second copy", names(c.Legs()), "BA1.5")
	// On the first one's side.
	is(t, "Take in the first", b.Take(l, seat("1C"), other), api.OK)
	is(t, "Free in the first", b.Free(l, seat("1A"), h), api.OK)
	is(t, "Take in the first", b.Take(m, seat("1A"), h), api.OK)
	isText(t, "On of the second copy", told(c.On(l)), "1A:X1")
	nobodys(t, c, m, seat("1A"))
	isText(t, "legs of the second copy", names(c.Legs()), "BA1.5")
	// On the copy's side: it has the table and the maps, too.
	is(t, "Take in the copy", c.Take(l, seat("1A"), h), api.ErrTwice)
	is(t, "Take in the copy", c.Take(l, seat("1B"), h), api.ErrSeat)
	is(t, "Take in the copy", c.Take(leg("BA", 3, 5), seat("1A"), h), api.ErrNone)
	is(t, "Free in the copy", c.Free(l, seat("1A"), h), api.OK)
	is(t, "Take in the copy", c.Take(l, seat("1A"), other), api.OK)
	is(t, "Take in the copy", c.Take(m, seat("12B"), other), api.OK)
	isText(t, "On of the second copy", told(c.On(l)), "1A:Y2")
	isText(t, "On of the first", told(b.On(l)), "1C:Y2")
	isText(t, "On of the first", told(b.On(m)), "1A:X1")
	// The copy in which nothing was held takes seats, too, and a copy of a copy.
	is(t, "Take in the empty copy", empty.Take(m, seat("2A"), other), api.OK)
	again := empty.Copy()
	is(t, "Free in its copy", again.Free(m, seat("2A"), other), api.OK)
	whose(t, empty, m, seat("2A"), other)
	nobodys(t, again, m, seat("2A"))
}

// Memory.

func TestAnswersAreMemoryOfTheirOwn(t *testing.T) {
	b, l := two(t), leg("BA", 1, 5)
	for _, s := range []string{"1A", "1C", "2A"} {
		is(t, "Take", b.Take(l, seat(s), holder("X1")), api.OK)
		is(t, "Take", b.Take(leg("BA", 2, 5), seat(s), holder("Y2")), api.OK)
	}
	held, legs := b.On(l), b.Legs()
	clear(held[:cap(held)])
	clear(legs[:cap(legs)])
	isText(t, "On behind a change of the answer", told(b.On(l)), "1A:X1 1C:X1 2A:X1")
	isText(t, "On of the other flight", told(b.On(leg("BA", 2, 5))), "1A:Y2 1C:Y2 2A:Y2")
	isText(t, "Legs behind a change of the answer", names(b.Legs()), "BA1.5 BA2.5")
}

// The list of maps that is handed in isn't kept, nor is it changed, nor what lies behind it.
func TestTheListOfMapsIsNotKept(t *testing.T) {
	small, great := cabin(t, 1, 1, "A"), cabin(t, 1, 9, "ABC")
	plans := []*plan.Map{small, great, small, small}
	b := New(table(t, one("BA", 1, 0), one("BA", 2, 1), one("BA", 3, 2)), plans[:2]...)
	if plans[0] != small || plans[1] != great || plans[2] != small || plans[3] != small {
		t.Error("the list has changed")
	}
	c := b.Copy()
	plans[0], plans[1], plans[2] = great, small, great
	for _, x := range []*Book{b, c} {
		if x.Has(leg("BA", 1, 5), seat("9C")) || !x.Has(leg("BA", 2, 5), seat("9C")) || x.Has(leg("BA", 3, 5), seat("1A")) {
			t.Error("a change of the list is seen")
		}
	}
}

// A table and maps are worked with by several, and stay as they are.
func TestTheTableAndTheMapsStayAsTheyAre(t *testing.T) {
	x, m := table(t, one("BA", 1, 0), one("BA", 2, 0)), cabin(t, 1, 3, "AB")
	flights, seats := x.All(), m.Seats()
	a, b, l := New(x, m), New(x, m), leg("BA", 1, 5)
	is(t, "Take", a.Take(l, seat("1A"), holder("X1")), api.OK)
	nobodys(t, b, l, seat("1A"))
	is(t, "Take in the other", b.Take(l, seat("1A"), holder("Y2")), api.OK)
	whose(t, a, l, seat("1A"), holder("X1"))
	if !reflect.DeepEqual(x.All(), flights) || !reflect.DeepEqual(m.Seats(), seats) {
		t.Error("the table or the map has changed")
	}
}
