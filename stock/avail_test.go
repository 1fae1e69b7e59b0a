package stock

import (
	"reflect"
	"strconv"
	"strings"
	"testing"

	"jetway/api"
)

// told: the lines as a text, with a + ahead of a linked one.
func told(lines []Line) string {
	var out []string
	for _, l := range lines {
		s := l.Key.Carrier + strconv.Itoa(l.Key.Number) + ":"
		for _, left := range l.Left {
			s += string(rune(left.Letter)) + strconv.Itoa(left.N)
		}
		if l.Linked {
			s = "+" + s
		}
		out = append(out, s)
	}
	return strings.Join(out, " ")
}

// P10.2.

func TestAvailOfEachFlight(t *testing.T) {
	classes := seats("CFY", 2, 0, 30)
	s := New(table(t,
		one("U2", 1, "LON", "PAR", 540, 600, classes), one("BA", 20, "LON", "PAR", 540, 500, classes), one("BA", 3, "LON", "PAR", 530, 1439, classes),
		one("BA", 4, "PAR", "LON", 1, 2, classes), one("BA", 5, "LON", "ROM", 1, 2, classes), onDays(one("ZZ", 9, "LON", "PAR", 0, 0, classes), 2),
	))
	isText(t, "on weekday 1", told(s.Avail(0, "LON", "PAR")), "BA3:C2F0Y9 BA20:C2F0Y9 U21:C2F0Y9")
	isText(t, "on weekday 2", told(s.Avail(1, "LON", "PAR")), "ZZ9:C2F0Y9 BA3:C2F0Y9 BA20:C2F0Y9 U21:C2F0Y9")
	isText(t, "on the last day", told(s.Avail(365, "LON", "PAR")), "ZZ9:C2F0Y9 BA3:C2F0Y9 BA20:C2F0Y9 U21:C2F0Y9")
	isText(t, "back", told(s.Avail(0, "PAR", "LON")), "BA4:C2F0Y9")
	want := []Line{{
		Key: api.Key{Carrier: "BA", Number: 4}, From: "PAR", To: "LON", Depart: 1, Arrive: 2,
		Left: []api.Sold{{Letter: 'C', N: 2}, {Letter: 'F', N: 0}, {Letter: 'Y', N: 9}},
	}}
	if got := s.Avail(0, "PAR", "LON"); !reflect.DeepEqual(got, want) {
		t.Errorf("Avail is %v, not %v", got, want)
	}
}

func TestAvailOfNone(t *testing.T) {
	s := New(table(t, one("BA", 1, "LON", "PAR", 540, 600, seats("Y", 9)), onDays(one("BA", 2, "LON", "ROM", 540, 600, seats("Y", 9)), 1)))
	is(t, "Set", s.Set(leg("BA", 1, 0), 'Y', 1), api.OK)
	for _, day := range noDays() {
		isText(t, "no day", told(s.Avail(day, "LON", "PAR")), "")
	}
	isText(t, "on a day on which none flies", told(s.Avail(1, "LON", "ROM")), "")
	isText(t, "on the day before the first", told(s.Avail(-1, "LON", "ROM")), "")
	for _, c := range [][2]string{{"PAR", "LON"}, {"PAR", "ROM"}, {"LON", "LON"}, {"", ""}, {"LON", ""}, {"", "PAR"}, {"lon", "par"}, {"LO", "PAR"}, {"LON ", "PAR"}, {"XXX", "PAR"}, {"LON", "XXX"}, {"LON", "PAR\x00"}} {
		isText(t, c[0]+" to "+c[1], told(s.Avail(0, c[0], c[1])), "")
	}
	isText(t, "of no flights", told(New(table(t)).Avail(0, "LON", "PAR")), "")
}

// 9 is told of 9 and of more, and no less of less.
func TestAvailOfEachNumberLeft(t *testing.T) {
	for _, level := range []int{0, 1, 8, 9, 10, 11, 18, 19, 400} {
		s := single(t, level)
		for sold := range level + 1 {
			is(t, "Set", s.Set(leg("BA", 1, 5), 'Y', sold), api.OK)
			want := "BA1:Y" + []string{"0", "1", "2", "3", "4", "5", "6", "7", "8", "9", "9"}[min(level-sold, 10)]
			got, _, _ := strings.Cut(told(s.Avail(5, "LON", "PAR")), " ")
			isText(t, "left", got, want)
			has(t, s, leg("BA", 1, 5), 'Y', sold, level-sold)
		}
	}
}

func TestAvailIsOfItsDayFlightAndClass(t *testing.T) {
	s := New(table(t, one("BA", 1, "LON", "PAR", 540, 600, seats("CFY", 4, 5, 6)), one("BA", 2, "LON", "PAR", 541, 600, seats("CY", 7, 8))))
	for _, e := range []api.Errno{s.Set(leg("BA", 1, 5), 'C', 1), s.Set(leg("BA", 1, 5), 'Y', 6), s.Set(leg("BA", 1, 6), 'F', 2), s.Set(leg("BA", 2, 5), 'Y', 3), s.Set(leg("BA", 2, 4), 'C', 7)} {
		is(t, "Set", e, api.OK)
	}
	isText(t, "on the day 3", told(s.Avail(3, "LON", "PAR")), "BA1:C4F5Y6 BA2:C7Y8")
	isText(t, "on the day 4", told(s.Avail(4, "LON", "PAR")), "BA1:C4F5Y6 BA2:C0Y8")
	isText(t, "on the day 5", told(s.Avail(5, "LON", "PAR")), "BA1:C3F5Y0 BA2:C7Y5")
	isText(t, "on the day 6", told(s.Avail(6, "LON", "PAR")), "BA1:C4F3Y6 BA2:C7Y8")
	is(t, "Cancel", s.Cancel(leg("BA", 1, 5), 'Y', 2), api.OK)
	is(t, "Sell", s.Sell(leg("BA", 1, 5), 'F', 4), api.OK)
	isText(t, "behind a cancellation and a sale", told(s.Avail(5, "LON", "PAR")), "BA1:C3F1Y2 BA2:C7Y5")
}

// linked: two first flights and two second ones, which make four links, and two flights without a stop, of which one departs behind all of the links.
func linked(t *testing.T) *Stock {
	t.Helper()
	y := func(level int) []api.Class { return seats("Y", level) }
	return New(table(t,
		one("BA", 1, "LON", "PAR", 100, 200, y(1)), one("BA", 2, "LON", "NYC", 90, 200, y(2)), one("BA", 3, "PAR", "ROM", 400, 500, y(3)),
		one("BA", 4, "NYC", "ROM", 300, 500, y(4)), one("BA", 5, "PAR", "ROM", 300, 500, y(5)), one("BA", 6, "LON", "ROM", 1400, 10, y(6)), one("BA", 7, "LON", "ROM", 95, 96, y(7)),
		onDays(one("BA", 8, "PAR", "ROM", 310, 500, y(8)), 2), one("BA", 9, "PAR", "ROM", 244, 500, y(9)),
	))
}

func TestAvailOfLinks(t *testing.T) {
	s := linked(t)
	isText(t, "flights, then links", told(s.Avail(0, "LON", "ROM")), "BA7:Y7 BA6:Y6 BA2:Y2 +BA4:Y4 BA1:Y1 +BA5:Y5 BA1:Y1 +BA3:Y3")
	isText(t, "with one of weekday 2", told(s.Avail(1, "LON", "ROM")), "BA7:Y7 BA6:Y6 BA2:Y2 +BA4:Y4 BA1:Y1 +BA5:Y5 BA1:Y1 +BA8:Y8 BA1:Y1 +BA3:Y3")
	is(t, "Sell", s.Sell(leg("BA", 1, 0), 'Y', 1), api.OK)
	is(t, "Sell", s.Sell(leg("BA", 4, 0), 'Y', 4), api.OK)
	is(t, "Sell", s.Sell(leg("BA", 3, 1), 'Y', 2), api.OK)
	// A flight that is sold out is told still, in each of its links.
	isText(t, "behind sales", told(s.Avail(0, "LON", "ROM")), "BA7:Y7 BA6:Y6 BA2:Y2 +BA4:Y0 BA1:Y0 +BA5:Y5 BA1:Y0 +BA3:Y3")
	isText(t, "on the next day", told(s.Avail(1, "LON", "ROM")), "BA7:Y7 BA6:Y6 BA2:Y2 +BA4:Y4 BA1:Y1 +BA5:Y5 BA1:Y1 +BA8:Y8 BA1:Y1 +BA3:Y1")
	isText(t, "a part of links", told(s.Avail(0, "LON", "PAR")), "BA1:Y0")
	got := s.Avail(0, "LON", "ROM")
	want := []Line{
		{Key: api.Key{Carrier: "BA", Number: 2}, From: "LON", To: "NYC", Depart: 90, Arrive: 200, Left: []api.Sold{{Letter: 'Y', N: 2}}},
		{Key: api.Key{Carrier: "BA", Number: 4}, From: "NYC", To: "ROM", Depart: 300, Arrive: 500, Linked: true, Left: []api.Sold{{Letter: 'Y', N: 0}}},
	}
	if len(got) != 8 || !reflect.DeepEqual(got[2:4], want) {
		t.Errorf("the first link of %v isn't %v", got, want)
	}
}

func TestAvailOfLinksAlone(t *testing.T) {
	s := New(table(t, one("BA", 1, "LON", "PAR", 100, 200, seats("CY", 1, 20)), one("BA", 2, "PAR", "ROM", 245, 300, seats("FY", 2, 3))))
	isText(t, "a link", told(s.Avail(5, "LON", "ROM")), "BA1:C1Y9 +BA2:F2Y3")
	s = New(table(t, one("BA", 1, "LON", "PAR", 100, 200, seats("CY", 1, 20)), one("BA", 2, "PAR", "ROM", 244, 300, seats("FY", 2, 3))))
	isText(t, "a minute short of a link", told(s.Avail(5, "LON", "ROM")), "")
}

func TestAvailOfAllFlights(t *testing.T) {
	var flights []api.Flight
	for i := range 64 {
		flights = append(flights, one("BA", 64-i, "LON", "PAR", 540, 600, seats("ABCDEF", 400, 400, 400, 400, 400, 400)))
	}
	s := New(table(t, flights...))
	for n := 1; n <= 64; n++ {
		is(t, "Set", s.Set(leg("BA", n, 5), "ABCDEF"[n%6], 400-n%9), api.OK)
	}
	lines := s.Avail(5, "LON", "PAR")
	if len(lines) != 64 {
		t.Fatal("lines:", len(lines))
	}
	for i, l := range lines {
		n := i + 1
		want := []byte("A9B9C9D9E9F9")
		want[2*(n%6)+1] = byte('0' + n%9)
		isText(t, "a line", told(lines[i:i+1]), "BA"+strconv.Itoa(n)+":"+string(want))
		if l.Linked {
			t.Error("linked:", l)
		}
	}
}

// Memory.

func TestAnswersAreMemoryOfTheirOwn(t *testing.T) {
	s := linked(t)
	is(t, "Set", s.Set(leg("BA", 1, 0), 'Y', 1), api.OK)
	is(t, "Set", s.Set(leg("BA", 2, 0), 'Y', 1), api.OK)
	wantLines, wantLegs := s.Avail(0, "LON", "ROM"), s.Legs()
	before := s.Avail(0, "LON", "ROM")
	for n := range wantLines {
		got := s.Avail(0, "LON", "ROM")
		// The list of one line, with what room it has: no other line changes with it.
		left := got[n].Left[:cap(got[n].Left)]
		for i := range left {
			left[i] = api.Sold{Letter: '?', N: -1}
		}
		got[n].Left = wantLines[n].Left
		if !reflect.DeepEqual(got, wantLines) {
			t.Errorf("what is written into the line %d is seen in another one", n)
		}
		got = got[:cap(got)]
		clear(got)
		if now := s.Avail(0, "LON", "ROM"); !reflect.DeepEqual(now, wantLines) {
			t.Errorf("what is written into the line %d is seen by Avail", n)
		}
	}
	legs := s.Legs()
	clear(legs[:cap(legs)])
	if now := s.Legs(); !reflect.DeepEqual(now, wantLegs) {
		t.Errorf("behind a change of the answer legs are %v", now)
	}
	if !reflect.DeepEqual(before, wantLines) {
		t.Error("an earlier answer has changed")
	}
}

// A table is worked with by several, and stays as it is.
func TestTheTableStaysAsItIs(t *testing.T) {
	x := table(t, one("BA", 2, "PAR", "ROM", 300, 400, seats("CY", 4, 9)), one("BA", 1, "LON", "PAR", 100, 200, seats("CY", 4, 9)))
	want := x.All()
	a, b := New(x), New(x)
	l := leg("BA", 1, 5)
	is(t, "Sell", a.Sell(l, 'C', 4), api.OK)
	is(t, "Set", a.Set(l, 'Y', 9), api.OK)
	isText(t, "left of the one", told(a.Avail(5, "LON", "ROM")), "BA1:C0Y0 +BA2:C4Y9")
	isText(t, "left of the other", told(b.Avail(5, "LON", "ROM")), "BA1:C4Y9 +BA2:C4Y9")
	is(t, "Sell in the other", b.Sell(l, 'C', 4), api.OK)
	is(t, "Cancel in the other", b.Cancel(l, 'Y', 1), api.ErrState)
	has(t, a, l, 'Y', 9, 0)
	if got := x.All(); !reflect.DeepEqual(got, want) {
		t.Errorf("the table is now %v", got)
	}
	if level, e := x.Level(l, 'C'); level != 4 || e != api.OK {
		t.Error("the level is now", level, e)
	}
}
