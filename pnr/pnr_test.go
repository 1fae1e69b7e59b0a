package pnr

import (
	"math"
	"reflect"
	"slices"
	"strconv"
	"strings"
	"testing"

	"jetway/api"
	"jetway/plan"
)

// Edits.

func name(last, first string) api.Edit {
	return api.Edit{Kind: api.EditName, Name: api.Name{Last: last, First: first}}
}

func leg(carrier string, number, day int) api.Leg {
	return api.Leg{Key: api.Key{Carrier: carrier, Number: number}, Day: day}
}

func live(l api.Leg, class byte) api.Segment { return api.Segment{Leg: l, Class: class, Live: true} }

func sell(s api.Segment) api.Edit { return api.Edit{Kind: api.EditSegment, Segment: s} }

// segment: that flight of BA on the day 5, in Y.
func segment(number int) api.Edit { return sell(live(leg("BA", number, 5), 'Y')) }

func phone(s string) api.Edit { return api.Edit{Kind: api.EditPhone, Text: s} }

func ticket(kind, day, minute int) api.Edit {
	return api.Edit{Kind: api.EditTicket, Ticket: api.Ticket{Kind: kind, Day: day, Minute: minute}}
}

func received(s string) api.Edit { return api.Edit{Kind: api.EditReceived, Text: s} }

func remark(s string) api.Edit { return api.Edit{Kind: api.EditRemark, Text: s} }

func drop(n int) api.Edit { return api.Edit{Kind: api.EditCancel, N: n} }

// give: a seat by such a text as 12A, or 0A and -1A, too.
func give(n, pax int, s string) api.Edit {
	return api.Edit{Kind: api.EditSeat, N: n, Pax: pax, Seat: seat(s)}
}

func free(n, pax int) api.Edit { return api.Edit{Kind: api.EditFree, N: n, Pax: pax} }

func seat(s string) api.Seat {
	last := len(s) - 1
	row, _ := strconv.Atoi(s[:last])
	return api.Seat{Row: row, Letter: s[last]}
}

// PNRs.

// made: what comes of the empty PNR and edits, all of which go.
func made(t *testing.T, edits ...api.Edit) api.Pnr {
	t.Helper()
	return behind(t, api.Pnr{}, edits...)
}

func behind(t *testing.T, p api.Pnr, edits ...api.Edit) api.Pnr {
	t.Helper()
	q, done, e := Fold(p, edits...)
	if done != len(edits) || e != api.OK {
		t.Fatalf("of %d edits %d were done: %v", len(edits), done, e)
	}
	return q
}

// three: of three passengers and three live segments, without seats.
func three(t *testing.T) api.Pnr {
	t.Helper()
	return made(t, name("SMITH", "ANN"), name("SMITH", "BOB"), name("SMITH", "CY"), segment(1), segment(2), segment(3))
}

// rich: something in every field; of the four segments the second isn't live.
func rich() api.Pnr {
	return api.Pnr{
		Locator: "IIDISM", Office: "LON",
		Names:    []api.Name{{Last: "SMITH", First: "ANN"}, {Last: "SMITH", First: "BOB"}, {Last: "O", First: "CY"}},
		Segments: []api.Segment{live(leg("BA", 117, 5), 'Y'), {Leg: leg("7U", 9, 6), Class: 'C'}, live(leg("BA", 118, 365), 'F'), live(leg("AF", 9999, 0), 'Y')},
		Phones:   []string{"020 7946/1-2 AB", "1"},
		Ticket:   api.Ticket{Kind: api.TicketLimit, Day: 1, Minute: 570},
		Received: "ANN",
		Remarks:  []string{"VEGAN", "X", "VEGAN"},
		Seats:    places("1.1.12A 1.2.12B 1.3.1A 3.1.12A 4.1.2C 4.3.2A"),
		Queued:   true,
	}
}

// unnamed: rich without a locator, so that names are taken.
func unnamed() api.Pnr {
	p := rich()
	p.Locator = ""
	return p
}

// places: of such a text as 1.2.12A: segment, passenger and seat.
func places(s string) []api.Place {
	var out []api.Place
	for _, one := range strings.Fields(s) {
		part := strings.Split(one, ".")
		n, _ := strconv.Atoi(part[0])
		pax, _ := strconv.Atoi(part[1])
		out = append(out, api.Place{Segment: n, Pax: pax, Seat: seat(part[2])})
	}
	return out
}

func told(l []api.Place) string {
	var out []string
	for _, x := range l {
		out = append(out, strconv.Itoa(x.Segment)+"."+strconv.Itoa(x.Pax)+"."+plan.Text(x.Seat))
	}
	return strings.Join(out, " ")
}

// Asking.

func isText(t *testing.T, what, got, want string) {
	t.Helper()
	if got != want {
		t.Errorf("%s: %q, not %q", what, got, want)
	}
}

// normal: with nil in the place of lists without elements, so that PNRs can be held against each other field by field.
func normal(p api.Pnr) api.Pnr {
	if len(p.Names) == 0 {
		p.Names = nil
	}
	if len(p.Segments) == 0 {
		p.Segments = nil
	}
	if len(p.Phones) == 0 {
		p.Phones = nil
	}
	if len(p.Remarks) == 0 {
		p.Remarks = nil
	}
	if len(p.Seats) == 0 {
		p.Seats = nil
	}
	return p
}

func isPnr(t *testing.T, what string, got, want api.Pnr) {
	t.Helper()
	if !reflect.DeepEqual(normal(got), normal(want)) {
		t.Errorf("%s:\n%+v, not\n%+v", what, got, want)
	}
}

// becomes: does Apply, and Fold of that edit alone, answer that PNR?
func becomes(t *testing.T, what string, p api.Pnr, e api.Edit, want api.Pnr) {
	t.Helper()
	was := copied(p)
	q, wrong := Apply(p, e)
	if wrong != api.OK {
		t.Errorf("%s: %v", what, wrong)
		return
	}
	isPnr(t, what, q, want)
	f, done, wrong := Fold(p, e)
	if done != 1 || wrong != api.OK {
		t.Errorf("%s: Fold does %d: %v", what, done, wrong)
	}
	isPnr(t, what+", by Fold", f, want)
	isPnr(t, what+", what was handed in", p, was)
}

// refused: do Apply, and Fold of that edit alone, answer that error?
func refused(t *testing.T, what string, p api.Pnr, e api.Edit, want api.Errno) {
	t.Helper()
	was := copied(p)
	q, wrong := Apply(p, e)
	if wrong != want {
		t.Errorf("%s: %v, not %v", what, wrong, want)
	}
	isPnr(t, what+", beside the error", q, api.Pnr{})
	f, done, wrong := Fold(p, e)
	if done != 0 || wrong != want {
		t.Errorf("%s: Fold does %d: %v, not %v", what, done, wrong, want)
	}
	isPnr(t, what+", by Fold", f, was)
	isPnr(t, what+", what was handed in", p, was)
}

// copied: one like it, made without the package.
func copied(p api.Pnr) api.Pnr {
	p.Names = append([]api.Name{}, p.Names...)
	p.Segments = append([]api.Segment{}, p.Segments...)
	p.Phones = append([]string{}, p.Phones...)
	p.Remarks = append([]string{}, p.Remarks...)
	p.Seats = append([]api.Place{}, p.Seats...)
	return p
}

// What is wrong.

func noPersons() []string {
	return []string{"", "o", "O'HARA", "SMITh", "A1", "A B", " A", "A ", "A/B", "A-B", "@", "[", "\x00", "\xc1", "É", strings.Repeat("A", 17), strings.Repeat("A", 5000)}
}

func noTexts() []string {
	return []string{"", " ", "A  B", " A", "A ", "a", "A+B", "A*", "A\nB", "A,B", "@", "[", "\x00", "\xff", "É", strings.Repeat("A", 41), strings.Repeat("A ", 20), strings.Repeat("A", 5000)}
}

func noDays() []int {
	return []int{-1, -366, 366, 367, 1 << 31, 1 << 32, 1<<32 + 5, math.MinInt, math.MaxInt}
}

func noMinutes() []int {
	return []int{-1, -1440, 1440, 1441, 1 << 31, 1 << 32, 1<<32 + 5, math.MinInt, math.MaxInt}
}

// noSegments: each of them wrong in one way alone.
func noSegments() []api.Segment {
	var out []api.Segment
	for _, c := range []string{"", "B", "BAA", "77", "ba", "Ba", "B ", " A", "B\xc1", "\x00A", "BA "} {
		out = append(out, live(leg(c, 1, 5), 'Y'))
	}
	for _, n := range []int{0, -1, -9999, 10000, 1 << 16, 1<<32 + 1, math.MinInt, math.MaxInt} {
		out = append(out, live(leg("BA", n, 5), 'Y'))
	}
	for _, day := range noDays() {
		out = append(out, live(leg("BA", 1, day), 'Y'))
	}
	for c := range 256 {
		if c < 'A' || c > 'Z' {
			out = append(out, live(leg("BA", 1, 5), byte(c)))
		}
	}
	return append(out, api.Segment{Leg: leg("BA", 1, 5), Class: 'Y'})
}

func noTickets() []api.Ticket {
	var out []api.Ticket
	for _, kind := range []int{0, -1, -2, 3, 4, 1<<32 + 1, 1<<32 + 2, math.MinInt, math.MaxInt} {
		out = append(out, api.Ticket{Kind: kind}, api.Ticket{Kind: kind, Day: 5, Minute: 6})
	}
	for _, day := range append(noDays(), 1, 365) {
		out = append(out, api.Ticket{Kind: api.TicketDone, Day: day})
	}
	for _, minute := range append(noMinutes(), 1, 1439) {
		out = append(out, api.Ticket{Kind: api.TicketDone, Minute: minute})
	}
	for _, day := range noDays() {
		out = append(out, api.Ticket{Kind: api.TicketLimit, Day: day, Minute: 5})
	}
	for _, minute := range noMinutes() {
		out = append(out, api.Ticket{Kind: api.TicketLimit, Day: 5, Minute: minute})
	}
	// As moments the first two of these would be some.
	return append(out, api.Ticket{Kind: api.TicketLimit, Day: 1, Minute: -1}, api.Ticket{Kind: api.TicketLimit, Day: -1, Minute: 1440}, api.Ticket{Kind: api.TicketDone, Day: 1, Minute: 1})
}

func noSeats() []api.Seat {
	var out []api.Seat
	for _, row := range []int{0, -1, 100, 101, 1 << 8, 1<<8 + 1, 1<<32 + 1, math.MinInt, math.MaxInt} {
		out = append(out, api.Seat{Row: row, Letter: 'A'})
	}
	for c := range 256 {
		if c < 'A' || c > 'Z' {
			out = append(out, api.Seat{Row: 1, Letter: byte(c)})
		}
	}
	return append(out, api.Seat{})
}

// noNumbers: what is no number of so many things.
func noNumbers(count int) []int {
	return []int{0, -1, count + 1, count + 2, -count, 1 << 8, 1<<8 + 1, 1<<32 + 1, math.MinInt, math.MaxInt}
}

// The examples.

func TestExample(t *testing.T) {
	p := made(t, name("SMITH", "ANN"), name("SMITH", "BOB"), segment(1))
	first := behind(t, p, give(1, 1, "1A"))
	refused(t, "a seat 1A for passenger 1, then 1A for 2", first, give(1, 2, "1A"), api.ErrTaken)
	both := behind(t, first, give(1, 1, "2A"), give(1, 2, "1A"))
	isText(t, "2A for 1, then 1A for 2", told(both.Seats), "1.1.2A 1.2.1A")
	gone := behind(t, both, drop(1))
	isText(t, "cancelling segment 1", told(gone.Seats), "")
	if gone.Segments[0].Live {
		t.Error("cancelling segment 1: it is live")
	}
	refused(t, "again", gone, drop(1), api.ErrSegment)
}

// P12.1: names.

func TestNames(t *testing.T) {
	p := unnamed()
	for _, n := range []api.Name{{Last: "A", First: "Z"}, {Last: "SMITH", First: "ANN"}, {Last: strings.Repeat("Z", 16), First: strings.Repeat("A", 16)}} {
		want := copied(p)
		want.Names = append(want.Names, n)
		becomes(t, "a name", p, name(n.Last, n.First), want)
	}
	for _, s := range noPersons() {
		refused(t, "no last name: "+s, p, name(s, "ANN"), api.ErrForm)
		refused(t, "no first name: "+s, p, name("SMITH", s), api.ErrForm)
		refused(t, "neither: "+s, p, name(s, s), api.ErrForm)
	}
}

func TestNamesAsFarAsThereIsRoom(t *testing.T) {
	p := api.Pnr{}
	for i := range 9 {
		want := copied(p)
		want.Names = append(want.Names, api.Name{Last: "A", First: string([]byte{byte('A' + i)})})
		becomes(t, "a name", p, name("A", string([]byte{byte('A' + i)})), want)
		p = want
	}
	for range 3 {
		refused(t, "one more name", p, name("A", "Z"), api.ErrMany)
		p.Names = append(p.Names, api.Name{})
	}
}

func TestNamesInTheOrderOfErrors(t *testing.T) {
	for _, locator := range []string{"IIDISM", "X", "no locator", "\x00", " "} {
		p := rich()
		p.Locator = locator
		refused(t, "a name behind "+locator, p, name("SMITH", "ANN"), api.ErrState)
		p.Names = make([]api.Name, 9)
		refused(t, "one name too many, behind "+locator, p, name("SMITH", "ANN"), api.ErrState)
		refused(t, "all three: no last name", p, name("", "ANN"), api.ErrForm)
		refused(t, "all three: no first name", p, name("SMITH", "ann"), api.ErrForm)
		p.Names = nil
		refused(t, "no name, and a locator", p, name("SMITH", ""), api.ErrForm)
		refused(t, "the first name, and a locator", p, name("SMITH", "ANN"), api.ErrState)
	}
	full := api.Pnr{Names: make([]api.Name, 9)}
	refused(t, "no name, and too many", full, name("", ""), api.ErrForm)
}

// P12.1: segments.

func TestSegments(t *testing.T) {
	p := rich()
	var good []api.Segment
	for _, carrier := range []string{"BA", "7U", "U2", "A0", "9Z"} {
		good = append(good, live(leg(carrier, 77, 5), 'Y'))
	}
	for _, n := range []int{1, 2, 116, 119, 9998, 9999} {
		good = append(good, live(leg("BA", n, 5), 'Y'))
	}
	for _, day := range []int{0, 1, 58, 59, 60, 364, 365} {
		good = append(good, live(leg("BA", 3, day), 'Y'))
	}
	for c := byte('A'); c <= 'Z'; c++ {
		good = append(good, live(leg("BA", 3, 5), c))
	}
	for _, s := range good {
		want := copied(p)
		want.Segments = append(want.Segments, s)
		becomes(t, "a segment", p, sell(s), want)
	}
	for _, s := range noSegments() {
		refused(t, "no segment", p, sell(s), api.ErrForm)
	}
}

// Of each leg that differs in one part alone from a live segment's there may be one; of that one none, whatever the class.
func TestASegmentTwice(t *testing.T) {
	p := made(t, sell(live(leg("BA", 117, 5), 'Y')), sell(live(leg("BA", 117, 6), 'Y')))
	for c := byte('A'); c <= 'Z'; c++ {
		refused(t, "the first one's leg", p, sell(live(leg("BA", 117, 5), c)), api.ErrTwice)
		refused(t, "the last one's leg", p, sell(live(leg("BA", 117, 6), c)), api.ErrTwice)
	}
	for _, l := range []api.Leg{leg("BB", 117, 5), leg("AA", 117, 5), leg("BA", 116, 5), leg("BA", 118, 5), leg("BA", 117, 4), leg("BA", 117, 7)} {
		want := copied(p)
		want.Segments = append(want.Segments, live(l, 'Y'))
		becomes(t, "another leg", p, sell(live(l, 'Y')), want)
	}
}

func TestASegmentWhoseEarlierOneWasCancelled(t *testing.T) {
	p := made(t, segment(1), segment(2), drop(1))
	want := copied(p)
	want.Segments = append(want.Segments, live(leg("BA", 1, 5), 'Y'))
	becomes(t, "a leg whose earlier segment was cancelled", p, segment(1), want)
	refused(t, "twice then", want, segment(1), api.ErrTwice)
	refused(t, "the other one", want, segment(2), api.ErrTwice)
	again := behind(t, want, drop(3), segment(1), drop(4), drop(2))
	want = copied(again)
	want.Segments = append(want.Segments, live(leg("BA", 1, 5), 'Y'))
	becomes(t, "another time", again, segment(1), want)
}

func TestSegmentsAsFarAsThereIsRoom(t *testing.T) {
	p := api.Pnr{}
	for n := 1; n <= 8; n++ {
		want := copied(p)
		want.Segments = append(want.Segments, live(leg("BA", n, 5), 'Y'))
		becomes(t, "a segment", p, segment(n), want)
		p = want
	}
	refused(t, "one more segment", p, segment(9), api.ErrMany)
	for n := 1; n <= 8; n++ {
		refused(t, "one that there is, and too many", p, segment(n), api.ErrTwice)
	}
	refused(t, "no segment, and too many", p, sell(live(leg("BA", 0, 5), 'Y')), api.ErrForm)
	// Those that aren't live take up room, too.
	for n := 1; n <= 8; n++ {
		p = behind(t, p, drop(n))
		refused(t, "one of a cancelled one's leg, and too many", p, segment(n), api.ErrMany)
	}
	p.Segments = append(p.Segments, api.Segment{}, live(leg("BA", 20, 5), 'Y'))
	refused(t, "of ten, another leg", p, segment(9), api.ErrMany)
	refused(t, "of ten, the last one's leg", p, segment(20), api.ErrTwice)
	refused(t, "of ten, no segment", p, sell(api.Segment{}), api.ErrForm)
}

// A segment that could stand there twice but isn't right is not right.
func TestNoSegmentThatThereIs(t *testing.T) {
	for _, s := range noSegments() {
		p := api.Pnr{Segments: make([]api.Segment, 8)}
		p.Segments[3] = s
		p.Segments[3].Live = true
		refused(t, "no segment, though it is there", p, sell(s), api.ErrForm)
	}
}

// P12.1: texts.

// goodTexts: free texts of one and of forty bytes too.
func goodTexts() []string {
	return []string{"A", "0", "/", ".", "-", "020 7946/1-2 AB", "A B", strings.Repeat("Z", 40), strings.Repeat("A ", 19) + "AB"}
}

func TestPhones(t *testing.T) {
	p := rich()
	for _, s := range goodTexts() {
		want := copied(p)
		want.Phones = append(want.Phones, s)
		becomes(t, "a phone", p, phone(s), want)
	}
	for _, s := range noTexts() {
		refused(t, "no phone: "+s, p, phone(s), api.ErrForm)
	}
	p.Phones = nil
	for i := range 4 {
		want := copied(p)
		want.Phones = append(want.Phones, strconv.Itoa(i/2)) // two alike, too
		becomes(t, "a phone", p, phone(strconv.Itoa(i/2)), want)
		p = want
	}
	for range 3 {
		refused(t, "one more phone", p, phone("9"), api.ErrMany)
		refused(t, "no phone, and too many", p, phone("x"), api.ErrForm)
		p.Phones = append(p.Phones, "")
	}
}

func TestRemarks(t *testing.T) {
	p := rich()
	for _, s := range goodTexts() {
		want := copied(p)
		want.Remarks = append(want.Remarks, s)
		becomes(t, "a remark", p, remark(s), want)
	}
	for _, s := range noTexts() {
		refused(t, "no remark: "+s, p, remark(s), api.ErrForm)
	}
	p.Remarks = nil
	for i := range 10 {
		want := copied(p)
		want.Remarks = append(want.Remarks, strconv.Itoa(i/2))
		becomes(t, "a remark", p, remark(strconv.Itoa(i/2)), want)
		p = want
	}
	for range 3 {
		refused(t, "one more remark", p, remark("9"), api.ErrMany)
		refused(t, "no remark, and too many", p, remark("x"), api.ErrForm)
		p.Remarks = append(p.Remarks, "")
	}
}

func TestReceived(t *testing.T) {
	for _, p := range []api.Pnr{{}, rich(), {Received: "not a free text"}} {
		for _, s := range goodTexts() {
			want := copied(p)
			want.Received = s
			becomes(t, "a received-from", p, received(s), want)
			becomes(t, "the same one again", want, received(s), want)
		}
		for _, s := range noTexts() {
			refused(t, "no received-from: "+s, p, received(s), api.ErrForm)
		}
	}
}

// P12.1: the ticketing field.

func TestTicket(t *testing.T) {
	var good []api.Ticket
	for _, day := range []int{0, 1, 59, 364, 365} {
		for _, minute := range []int{0, 1, 570, 1438, 1439} {
			good = append(good, api.Ticket{Kind: api.TicketLimit, Day: day, Minute: minute})
		}
	}
	good = append(good, api.Ticket{Kind: api.TicketDone})
	done, other := api.Pnr{Ticket: api.Ticket{Kind: api.TicketDone}}, rich()
	other.Queued = false
	for _, p := range []api.Pnr{{}, rich(), other, done, {Queued: true}, {Ticket: api.Ticket{Kind: 9, Day: 9, Minute: 9}, Queued: true}} {
		for _, x := range good {
			want := copied(p)
			want.Ticket, want.Queued = x, false
			becomes(t, "a ticketing field", p, ticket(x.Kind, x.Day, x.Minute), want)
		}
		// So too of one that is like the one it has.
		for _, x := range noTickets() {
			refused(t, "no ticketing field", p, ticket(x.Kind, x.Day, x.Minute), api.ErrForm)
			same := copied(p)
			same.Ticket = x
			refused(t, "no ticketing field, though it is there", same, ticket(x.Kind, x.Day, x.Minute), api.ErrForm)
		}
	}
	becomes(t, "the same limit again", rich(), ticket(api.TicketLimit, 1, 570), other)
}

// P12.1: cancelling.

func TestCancel(t *testing.T) {
	for n, seats := range map[int]string{1: "3.1.12A 4.1.2C 4.3.2A", 3: "1.1.12A 1.2.12B 1.3.1A 4.1.2C 4.3.2A", 4: "1.1.12A 1.2.12B 1.3.1A 3.1.12A"} {
		want := rich()
		want.Segments[n-1].Live = false
		want.Seats = places(seats)
		becomes(t, "cancelling "+strconv.Itoa(n), rich(), drop(n), want)
		refused(t, "cancelling it again", want, drop(n), api.ErrSegment)
		// Without seats.
		p := rich()
		p.Seats = places(seats)
		becomes(t, "cancelling one without seats", p, drop(n), want)
	}
	refused(t, "cancelling what isn't live", rich(), drop(2), api.ErrSegment)
	for _, n := range noNumbers(4) {
		refused(t, "cancelling what there isn't", rich(), drop(n), api.ErrSegment)
		refused(t, "cancelling of the empty PNR", api.Pnr{}, drop(n), api.ErrSegment)
	}
	refused(t, "cancelling the first of the empty PNR", api.Pnr{}, drop(1), api.ErrSegment)
}

func TestCancelOfOneOfOne(t *testing.T) {
	p := made(t, segment(1))
	want := copied(p)
	want.Segments[0].Live = false
	becomes(t, "cancelling the only one", p, drop(1), want)
	for _, n := range noNumbers(1) {
		refused(t, "cancelling what there isn't", p, drop(n), api.ErrSegment)
	}
}

func TestCancelAllOneByOne(t *testing.T) {
	p := api.Pnr{Names: []api.Name{{Last: "A", First: "B"}}}
	for n := 1; n <= 8; n++ {
		p = behind(t, p, segment(n), give(n, 1, "1A"))
	}
	for i, n := range []int{8, 1, 5, 4, 2, 7, 6, 3} {
		p = behind(t, p, drop(n))
		if got := len(p.Seats); got != 7-i || p.Segments[n-1].Live {
			t.Errorf("behind cancelling %d there are %d seats", n, got)
		}
	}
}

// Of any PNR: places of that segment go wherever they stand, and whoever's they are.
func TestCancelWherePlacesStandAnyhow(t *testing.T) {
	p := rich()
	p.Seats = places("4.1.2C 1.3.1A 9.1.1A 1.3.1A 0.1.1A 1.77.9A 3.1.1A 1.0.0A")
	want := rich()
	want.Segments[0].Live = false
	want.Seats = places("4.1.2C 9.1.1A 0.1.1A 3.1.1A")
	becomes(t, "cancelling 1", p, drop(1), want)
}

// P12.1: seats.

// gives: are those the seats behind that edit, and all the rest as it was?
func gives(t *testing.T, what string, p api.Pnr, e api.Edit, seats string) api.Pnr {
	t.Helper()
	want := copied(p)
	want.Seats = places(seats)
	becomes(t, what, p, e, want)
	return want
}

func TestSeatsStandInTheirOrder(t *testing.T) {
	p := three(t)
	p = gives(t, "the first one", p, give(2, 2, "5A"), "2.2.5A")
	p = gives(t, "ahead of it, of a segment ahead", p, give(1, 3, "5A"), "1.3.5A 2.2.5A")
	p = gives(t, "between them, of a passenger ahead", p, give(2, 1, "6A"), "1.3.5A 2.1.6A 2.2.5A")
	p = gives(t, "behind all, of a passenger behind", p, give(2, 3, "7A"), "1.3.5A 2.1.6A 2.2.5A 2.3.7A")
	p = gives(t, "behind all, of a segment behind", p, give(3, 1, "5A"), "1.3.5A 2.1.6A 2.2.5A 2.3.7A 3.1.5A")
	p = gives(t, "ahead of all", p, give(1, 1, "1A"), "1.1.1A 1.3.5A 2.1.6A 2.2.5A 2.3.7A 3.1.5A")
	p = gives(t, "between two of one segment", p, give(1, 2, "2A"), "1.1.1A 1.2.2A 1.3.5A 2.1.6A 2.2.5A 2.3.7A 3.1.5A")
	gives(t, "behind all of a segment", p, give(3, 2, "2A"), "1.1.1A 1.2.2A 1.3.5A 2.1.6A 2.2.5A 2.3.7A 3.1.5A 3.2.2A")
}

// All nine places of three passengers in three segments, in any order of being given.
func TestSeatsGivenInAnyOrder(t *testing.T) {
	p := three(t)
	all := places("1.1.9A 1.2.8A 1.3.7A 2.1.9A 2.2.8A 2.3.7A 3.1.9A 3.2.8A 3.3.7A")
	for first := range 9 {
		for _, by := range []int{1, 2, 4, 5, 7, 8} { // what has no part in common with 9
			q := p
			for i := range 9 {
				x := all[(first+i*by)%9]
				q = behind(t, q, give(x.Segment, x.Pax, plan.Text(x.Seat)))
			}
			isText(t, "all seats", told(q.Seats), told(all))
		}
	}
}

func TestASeatGivenAnew(t *testing.T) {
	p := behind(t, three(t), give(1, 1, "1A"), give(1, 2, "2A"), give(2, 1, "1A"))
	gives(t, "the same one to the same passenger", p, give(1, 1, "1A"), "1.1.1A 1.2.2A 2.1.1A")
	gives(t, "another one to the same passenger", p, give(1, 1, "3A"), "1.1.3A 1.2.2A 2.1.1A")
	gives(t, "another letter", p, give(1, 1, "1B"), "1.1.1B 1.2.2A 2.1.1A")
	gives(t, "another one to the second passenger", p, give(1, 2, "3A"), "1.1.1A 1.2.3A 2.1.1A")
	gives(t, "one of the first one's row to the second", p, give(1, 2, "1B"), "1.1.1A 1.2.1B 2.1.1A")
	gives(t, "one of the first one's letter to the second", p, give(1, 2, "11A"), "1.1.1A 1.2.11A 2.1.1A")
	gives(t, "to a third one, in another segment", p, give(2, 3, "2A"), "1.1.1A 1.2.2A 2.1.1A 2.3.2A")
	gives(t, "that of one to another, in a third segment", p, give(3, 2, "1A"), "1.1.1A 1.2.2A 2.1.1A 3.2.1A")
	refused(t, "the first one's to the second", p, give(1, 2, "1A"), api.ErrTaken)
	refused(t, "the second one's to the first", p, give(1, 1, "2A"), api.ErrTaken)
	refused(t, "the second one's to the third", p, give(1, 3, "2A"), api.ErrTaken)
	refused(t, "the first one's to the second, of the second segment", p, give(2, 2, "1A"), api.ErrTaken)
	q := gives(t, "freed", p, free(1, 1), "1.2.2A 2.1.1A")
	gives(t, "to another one behind it was freed", q, give(1, 2, "1A"), "1.2.1A 2.1.1A")
	gives(t, "to a third one behind it was freed", q, give(1, 3, "1A"), "1.2.2A 1.3.1A 2.1.1A")
	q = gives(t, "behind the first one has another", p, give(1, 1, "4A"), "1.1.4A 1.2.2A 2.1.1A")
	gives(t, "the one it had, to another", q, give(1, 3, "1A"), "1.1.4A 1.2.2A 1.3.1A 2.1.1A")
	q = behind(t, p, drop(1), segment(1))
	gives(t, "in a segment of the cancelled one's leg", q, give(4, 2, "1A"), "2.1.1A 4.2.1A")
}

func TestWhatIsASeat(t *testing.T) {
	p := three(t)
	for row := 1; row <= 99; row++ {
		for c := byte('A'); c <= 'Z'; c++ {
			s := plan.Text(api.Seat{Row: row, Letter: c})
			gives(t, "the seat "+s, p, give(2, 3, s), "2.3."+s)
		}
	}
	for _, s := range noSeats() {
		refused(t, "no seat", p, api.Edit{Kind: api.EditSeat, N: 2, Pax: 3, Seat: s}, api.ErrForm)
	}
}

func TestSeatsOfTheGreatestThereIs(t *testing.T) {
	var edits []api.Edit
	for i := range 9 {
		edits = append(edits, name("A", string([]byte{byte('A' + i)})))
	}
	for n := 1; n <= 8; n++ {
		edits = append(edits, segment(n))
	}
	p := made(t, edits...)
	gives(t, "the first of all", p, give(1, 1, "1A"), "1.1.1A")
	p = gives(t, "the last of all", p, give(8, 9, "99Z"), "8.9.99Z")
	for _, n := range noNumbers(8) {
		refused(t, "a seat in no segment", p, give(n, 9, "1A"), api.ErrSegment)
		refused(t, "free in no segment", p, free(n, 9), api.ErrSegment)
	}
	for _, pax := range noNumbers(9) {
		refused(t, "a seat for no passenger", p, give(8, pax, "1A"), api.ErrPassenger)
		refused(t, "free of no passenger", p, free(8, pax), api.ErrPassenger)
	}
	gives(t, "free of the last of all", p, free(8, 9), "")
}

func TestSeatsInTheOrderOfErrors(t *testing.T) {
	p := rich()
	taken, none := seat("12A"), api.Seat{}
	for _, n := range append(noNumbers(4), 2) {
		for _, pax := range append(noNumbers(3), 1, 2, 3) {
			refused(t, "no seat and no segment", p, api.Edit{Kind: api.EditSeat, N: n, Pax: pax, Seat: none}, api.ErrForm)
			refused(t, "no segment", p, api.Edit{Kind: api.EditSeat, N: n, Pax: pax, Seat: taken}, api.ErrSegment)
			refused(t, "free in no segment", p, free(n, pax), api.ErrSegment)
		}
	}
	for _, pax := range noNumbers(3) {
		refused(t, "no seat and no passenger", p, api.Edit{Kind: api.EditSeat, N: 1, Pax: pax, Seat: none}, api.ErrForm)
		refused(t, "no passenger, and taken", p, api.Edit{Kind: api.EditSeat, N: 1, Pax: pax, Seat: taken}, api.ErrPassenger)
		refused(t, "free of no passenger", p, free(1, pax), api.ErrPassenger)
	}
	refused(t, "no seat, though it is his", api.Pnr{Names: p.Names, Segments: p.Segments, Seats: []api.Place{{Segment: 1, Pax: 1}}}, api.Edit{Kind: api.EditSeat, N: 1, Pax: 1}, api.ErrForm)
	refused(t, "taken", p, give(1, 2, "12A"), api.ErrTaken)
	refused(t, "taken", p, give(1, 3, "12A"), api.ErrTaken)
	refused(t, "taken in the last segment", p, give(4, 2, "2A"), api.ErrTaken)
	refused(t, "free of what there isn't", p, free(3, 2), api.ErrNone)
	refused(t, "free of what there isn't", p, free(4, 2), api.ErrNone)
	// A place in a segment that isn't live, and one of what is no passenger, are none to be asked for.
	p.Seats = places("2.1.1A 1.0.1B 1.4.1C 0.1.1D 5.1.1E")
	refused(t, "free in a segment that isn't live", p, free(2, 1), api.ErrSegment)
	refused(t, "free of the passenger 0", p, free(1, 0), api.ErrPassenger)
	refused(t, "free of the passenger 4", p, free(1, 4), api.ErrPassenger)
	refused(t, "free in the segment 0", p, free(0, 1), api.ErrSegment)
	refused(t, "free in the segment 5", p, free(5, 1), api.ErrSegment)
	refused(t, "cancelling the segment 5", p, drop(5), api.ErrSegment)
}

func TestFree(t *testing.T) {
	p := rich()
	all := strings.Fields("1.1.12A 1.2.12B 1.3.1A 3.1.12A 4.1.2C 4.3.2A")
	for i, x := range p.Seats {
		left := append(append([]string{}, all[:i]...), all[i+1:]...)
		q := gives(t, "freed", p, free(x.Segment, x.Pax), strings.Join(left, " "))
		refused(t, "freed again", q, free(x.Segment, x.Pax), api.ErrNone)
	}
	for i, x := range p.Seats {
		p = gives(t, "one behind the other", p, free(x.Segment, x.Pax), strings.Join(all[i+1:], " "))
	}
}

// Of any PNR: all places of that passenger in that segment go; one stands ahead of the first that is behind it.
func TestWherePlacesStandAnyhow(t *testing.T) {
	p := rich()
	with := func(seats string) api.Pnr {
		p.Seats = places(seats)
		return copied(p)
	}
	several := with("4.1.2C 1.2.9A 3.2.9A 1.2.8A 1.1.7A 1.2.9A")
	gives(t, "free of several", several, free(1, 2), "4.1.2C 3.2.9A 1.1.7A")
	gives(t, "several give way, one comes", several, give(1, 2, "9A"), "1.2.9A 4.1.2C 3.2.9A 1.1.7A")
	gives(t, "one behind all", several, give(4, 3, "9A"), "4.1.2C 1.2.9A 3.2.9A 1.2.8A 1.1.7A 1.2.9A 4.3.9A")
	gives(t, "one ahead of the first that is behind it", with("1.3.9A 1.1.1A 3.1.1A 1.3.8A"), give(1, 2, "2A"), "1.2.2A 1.3.9A 1.1.1A 3.1.1A 1.3.8A")
	gives(t, "one behind a greater passenger of a segment ahead", with("1.3.9A 1.2.1A 4.1.1A"), give(3, 1, "2A"), "1.3.9A 1.2.1A 3.1.2A 4.1.1A")
	gives(t, "one among numbers that are none", with("-1.9.1A 0.1.1A 1.-5.1A 1.0.1A 2.1.1A 99.1.1A"), give(1, 1, "2A"), "-1.9.1A 0.1.1A 1.-5.1A 1.0.1A 1.1.2A 2.1.1A 99.1.1A")
	gives(t, "one behind its like that went", with("1.2.9A 3.1.1A"), give(3, 1, "2A"), "1.2.9A 3.1.2A")
	refused(t, "taken by a place that stands behind", with("4.1.2C 1.2.9A 1.1.7A"), give(1, 2, "7A"), api.ErrTaken)
	refused(t, "taken, though it is his too", with("1.2.9A 1.1.9A"), give(1, 2, "9A"), api.ErrTaken)
	refused(t, "taken, though it is his too", with("1.1.9A 1.2.9A"), give(1, 2, "9A"), api.ErrTaken)
	refused(t, "taken by one who is no passenger", with("1.7.9A"), give(1, 2, "9A"), api.ErrTaken)
	// What is wide goes as it is.
	p.Seats = []api.Place{{Segment: math.MinInt, Pax: math.MaxInt, Seat: seat("1A")}, {Segment: 1<<32 + 1, Pax: 1, Seat: seat("1A")}, {Segment: math.MaxInt, Pax: math.MinInt, Seat: seat("1A")}}
	want := copied(p)
	want.Seats = []api.Place{p.Seats[0], {Segment: 1, Pax: 1, Seat: seat("1A")}, p.Seats[1], p.Seats[2]}
	becomes(t, "one among wide numbers", p, give(1, 1, "1A"), want)
}

// A PNR may have more names, segments and so on than edits come to: each of them counts.
func TestMoreThanThereMayBe(t *testing.T) {
	p := api.Pnr{Names: make([]api.Name, 300), Segments: make([]api.Segment, 300)}
	for i := range p.Segments {
		p.Segments[i] = live(leg("BA", i+1, 5), 'Y')
	}
	q := gives(t, "the last of 300", p, give(300, 300, "9A"), "300.300.9A")
	q = gives(t, "ahead of it", q, give(44, 299, "9A"), "44.299.9A 300.300.9A")
	refused(t, "one more", q, give(300, 301, "9A"), api.ErrPassenger)
	refused(t, "one more", q, give(301, 300, "9A"), api.ErrSegment)
	gives(t, "freed", q, free(300, 300), "44.299.9A")
	want := copied(q)
	want.Segments[299].Live, want.Seats = false, places("44.299.9A")
	becomes(t, "cancelled", q, drop(300), want)
}

// P12.1: kinds.

func TestKindsThatThereArent(t *testing.T) {
	e := noisy(0)
	for _, kind := range []int{0, 10, -1, 11, 99, -9, 1 << 8, 1<<8 + 1, 1<<32 + 1, 1<<32 + 9, math.MinInt, math.MaxInt} {
		e.Kind = kind
		for _, p := range []api.Pnr{{}, rich(), unnamed()} {
			refused(t, "the kind "+strconv.Itoa(kind), p, e, api.ErrForm)
			refused(t, "the kind "+strconv.Itoa(kind), p, api.Edit{Kind: kind}, api.ErrForm)
		}
	}
}

// noisy: an edit of that kind each of whose fields is right for some kind.
func noisy(kind int) api.Edit {
	return api.Edit{
		Kind: kind, Name: api.Name{Last: "NEW", First: "ONE"}, Segment: live(leg("ZZ", 1, 1), 'Z'), Ticket: api.Ticket{Kind: api.TicketDone},
		Text: "NEW", N: 4, Pax: 1, Seat: seat("44D"),
	}
}

// mixed: the fields that the edit's kind names, and all others from another edit.
func mixed(e, other api.Edit) api.Edit {
	other.Kind = e.Kind
	switch e.Kind {
	case api.EditName:
		other.Name = e.Name
	case api.EditSegment:
		other.Segment = e.Segment
	case api.EditPhone, api.EditReceived, api.EditRemark:
		other.Text = e.Text
	case api.EditTicket:
		other.Ticket = e.Ticket
	case api.EditCancel:
		other.N = e.N
	case api.EditSeat:
		other.N, other.Pax, other.Seat = e.N, e.Pax, e.Seat
	case api.EditFree:
		other.N, other.Pax = e.N, e.Pax
	}
	return other
}

func TestFieldsThatAKindDoesntName(t *testing.T) {
	p := unnamed()
	for kind := 1; kind <= 9; kind++ {
		what := " of the kind " + strconv.Itoa(kind)
		good := noisy(kind)
		bad := api.Edit{Kind: kind, Name: api.Name{Last: "no"}, Segment: api.Segment{Class: 1}, Ticket: api.Ticket{Kind: -1, Day: -1}, Text: "  ", N: -1, Pax: 99, Seat: api.Seat{Row: -1}}
		want, e := Apply(p, mixed(good, api.Edit{}))
		if e != api.OK || Same(want, p) {
			t.Errorf("an edit%s: %v", what, e)
		}
		becomes(t, "right in what isn't named,"+what, p, good, want)
		becomes(t, "wrong in what isn't named,"+what, p, mixed(good, bad), want)
		wrong := api.ErrForm
		if kind == api.EditCancel || kind == api.EditFree {
			wrong = api.ErrSegment
		}
		refused(t, "wrong in what is named,"+what, p, mixed(bad, good), wrong)
		refused(t, "wrong in all,"+what, p, bad, wrong)
	}
}

// P12.2.

func TestFoldOfNoEdits(t *testing.T) {
	for _, p := range []api.Pnr{{}, rich(), {Seats: places("9.9.9A")}} {
		for _, edits := range [][]api.Edit{nil, {}, make([]api.Edit, 0, 3)} {
			q, done, e := Fold(p, edits...)
			if done != 0 || e != api.OK {
				t.Errorf("of no edits %d were done: %v", done, e)
			}
			isPnr(t, "of no edits", q, p)
		}
	}
}

// ten: edits that all go of the empty PNR, and what comes of the first n of them.
func ten() ([]api.Edit, func(n int) api.Pnr) {
	edits := []api.Edit{
		name("SMITH", "ANN"), segment(1), give(1, 1, "1A"), phone("020"), ticket(api.TicketLimit, 1, 2),
		received("ANN"), remark("VEGAN"), segment(2), free(1, 1), drop(1),
	}
	return edits, func(n int) api.Pnr {
		p := api.Pnr{}
		steps := []func(){
			func() { p.Names = []api.Name{{Last: "SMITH", First: "ANN"}} },
			func() { p.Segments = []api.Segment{live(leg("BA", 1, 5), 'Y')} },
			func() { p.Seats = places("1.1.1A") },
			func() { p.Phones = []string{"020"} },
			func() { p.Ticket = api.Ticket{Kind: api.TicketLimit, Day: 1, Minute: 2} },
			func() { p.Received = "ANN" },
			func() { p.Remarks = []string{"VEGAN"} },
			func() { p.Segments = append(p.Segments, live(leg("BA", 2, 5), 'Y')) },
			func() { p.Seats = nil },
			func() { p.Segments[0].Live = false },
		}
		for _, step := range steps[:n] {
			step()
		}
		return p
	}
}

func TestFoldOfEditsThatAllGo(t *testing.T) {
	edits, after := ten()
	for n := range len(edits) + 1 {
		q, done, e := Fold(api.Pnr{}, edits[:n]...)
		if done != n || e != api.OK {
			t.Errorf("of %d edits %d were done: %v", n, done, e)
		}
		isPnr(t, "behind "+strconv.Itoa(n), q, after(n))
	}
}

// Where one is refused, those behind it play no part, and what those ahead of it came to is told.
func TestFoldOfEditsOneOfWhichIsRefused(t *testing.T) {
	edits, after := ten()
	for n := range len(edits) + 1 {
		for want, bad := range map[api.Errno]api.Edit{api.ErrForm: {Kind: 10}, api.ErrSegment: drop(3)} {
			// With another one behind it that would be refused, too.
			for _, more := range [][]api.Edit{nil, {drop(-1), name("", "")}} {
				row := slices.Concat(edits[:n], []api.Edit{bad}, more, edits[n:])
				q, done, e := Fold(api.Pnr{}, row...)
				if done != n || e != want {
					t.Errorf("%d were done, not %d: %v, not %v", done, n, e, want)
				}
				isPnr(t, "the one so far, behind "+strconv.Itoa(n), q, after(n))
			}
		}
	}
}

func TestFoldTellsEachError(t *testing.T) {
	p := behind(t, three(t), give(1, 1, "1A"), phone("1"), phone("2"))
	for want, x := range map[api.Errno]api.Edit{
		api.ErrForm: remark(""), api.ErrTwice: segment(3), api.ErrNone: free(2, 1), api.ErrTaken: give(1, 2, "1A"), api.ErrSegment: drop(4), api.ErrPassenger: free(1, 4),
	} {
		q, done, e := Fold(p, phone("3"), phone("4"), x, remark("R"))
		if done != 2 || e != want {
			t.Errorf("%d were done: %v, not %v", done, e, want)
		}
		isPnr(t, "the one so far", q, behind(t, p, phone("3"), phone("4")))
	}
	q, done, e := Fold(p, phone("3"), phone("4"), phone("5"), phone("6"))
	if done != 2 || e != api.ErrMany || len(q.Phones) != 4 {
		t.Errorf("%d were done: %v, and %d phones", done, e, len(q.Phones))
	}
	p.Locator = "IIDISM"
	if _, done, e = Fold(p, phone("3"), name("A", "B")); done != 1 || e != api.ErrState {
		t.Errorf("%d were done: %v", done, e)
	}
}

func TestFoldOfManyEdits(t *testing.T) {
	var edits []api.Edit
	for i := range 20000 {
		edits = append(edits, received("A"+strconv.Itoa(i)), give(1, 1+i%3, strconv.Itoa(1+i%99)+"A"))
	}
	edits = append(edits, drop(1), drop(1), drop(2))
	q, done, e := Fold(three(t), edits...)
	if done != 40001 || e != api.ErrSegment || q.Received != "A19999" || len(q.Seats) > 0 || !q.Segments[1].Live {
		t.Errorf("%d were done: %v", done, e)
	}
}

// P12.3.

func TestLive(t *testing.T) {
	for bits := range 1 << 8 {
		for count := range 9 {
			if bits>>count > 0 {
				continue
			}
			var p api.Pnr
			want := ""
			for i := range count {
				on := bits>>i&1 == 1
				p.Segments = append(p.Segments, api.Segment{Live: on})
				if on {
					want += strconv.Itoa(i+1) + " "
				}
			}
			got := ""
			for _, n := range Live(p) {
				got += strconv.Itoa(n) + " "
			}
			isText(t, "live", got, want)
		}
	}
	if len(Live(api.Pnr{})) != 0 || len(Live(api.Pnr{Segments: make([]api.Segment, 3, 9)})) != 0 {
		t.Error("something is live")
	}
	many := api.Pnr{Segments: make([]api.Segment, 5000)}
	many.Segments[4999].Live, many.Segments[4095].Live = true, true
	if got := Live(many); len(got) != 2 || got[0] != 4096 || got[1] != 5000 {
		t.Error("of 5000 live are", got)
	}
}

// changes: PNRs that differ from rich in one thing alone, each thing in its turn.
func changes() map[string]func(p *api.Pnr) {
	return map[string]func(p *api.Pnr){
		"Locator":               func(p *api.Pnr) { p.Locator = "SSHNCN" },
		"Locator, none":         func(p *api.Pnr) { p.Locator = "" },
		"Office":                func(p *api.Pnr) { p.Office = "PAR" },
		"Office, none":          func(p *api.Pnr) { p.Office = "" },
		"the first Last":        func(p *api.Pnr) { p.Names[0].Last = "SMITT" },
		"the last First":        func(p *api.Pnr) { p.Names[2].First = "CX" },
		"one name less":         func(p *api.Pnr) { p.Names = p.Names[:2] },
		"the first name less":   func(p *api.Pnr) { p.Names = p.Names[1:] },
		"one name more":         func(p *api.Pnr) { p.Names = append(p.Names, api.Name{}) },
		"names changed about":   func(p *api.Pnr) { p.Names[0], p.Names[1] = p.Names[1], p.Names[0] },
		"no names":              func(p *api.Pnr) { p.Names = nil },
		"a Carrier":             func(p *api.Pnr) { p.Segments[0].Leg.Key.Carrier = "BB" },
		"a Number":              func(p *api.Pnr) { p.Segments[1].Leg.Key.Number = 10 },
		"a Day":                 func(p *api.Pnr) { p.Segments[2].Leg.Day = 364 },
		"a Class":               func(p *api.Pnr) { p.Segments[3].Class = 'Z' },
		"a Live":                func(p *api.Pnr) { p.Segments[1].Live = true },
		"another Live":          func(p *api.Pnr) { p.Segments[3].Live = false },
		"one segment less":      func(p *api.Pnr) { p.Segments = p.Segments[:3] },
		"one segment more":      func(p *api.Pnr) { p.Segments = append(p.Segments, api.Segment{}) },
		"segments about":        func(p *api.Pnr) { p.Segments[0], p.Segments[3] = p.Segments[3], p.Segments[0] },
		"no segments":           func(p *api.Pnr) { p.Segments = nil },
		"the first phone":       func(p *api.Pnr) { p.Phones[0] = "020 7946/1-2 AC" },
		"the last phone":        func(p *api.Pnr) { p.Phones[1] = "2" },
		"one phone less":        func(p *api.Pnr) { p.Phones = p.Phones[:1] },
		"one phone more":        func(p *api.Pnr) { p.Phones = append(p.Phones, "") },
		"phones changed about":  func(p *api.Pnr) { p.Phones[0], p.Phones[1] = p.Phones[1], p.Phones[0] },
		"no phones":             func(p *api.Pnr) { p.Phones = nil },
		"the Ticket's Kind":     func(p *api.Pnr) { p.Ticket.Kind = api.TicketDone },
		"the Ticket's Day":      func(p *api.Pnr) { p.Ticket.Day = 2 },
		"the Ticket's Minute":   func(p *api.Pnr) { p.Ticket.Minute = 571 },
		"Received":              func(p *api.Pnr) { p.Received = "BOB" },
		"Received, none":        func(p *api.Pnr) { p.Received = "" },
		"the first remark":      func(p *api.Pnr) { p.Remarks[0] = "VEGA" },
		"the last remark":       func(p *api.Pnr) { p.Remarks[2] = "VEGAM" },
		"one remark less":       func(p *api.Pnr) { p.Remarks = p.Remarks[:2] },
		"one remark more":       func(p *api.Pnr) { p.Remarks = append(p.Remarks, "VEGAN") },
		"remarks changed about": func(p *api.Pnr) { p.Remarks[0], p.Remarks[1] = p.Remarks[1], p.Remarks[0] },
		"no remarks":            func(p *api.Pnr) { p.Remarks = nil },
		"a place's Segment":     func(p *api.Pnr) { p.Seats[3].Segment = 2 },
		"a place's Pax":         func(p *api.Pnr) { p.Seats[3].Pax = 2 },
		"a place's Row":         func(p *api.Pnr) { p.Seats[5].Seat.Row = 3 },
		"a place's Letter":      func(p *api.Pnr) { p.Seats[0].Seat.Letter = 'B' },
		"one place less":        func(p *api.Pnr) { p.Seats = p.Seats[:5] },
		"one place more":        func(p *api.Pnr) { p.Seats = append(p.Seats, api.Place{}) },
		"places changed about":  func(p *api.Pnr) { p.Seats[0], p.Seats[1] = p.Seats[1], p.Seats[0] },
		"no places":             func(p *api.Pnr) { p.Seats = nil },
		"Queued":                func(p *api.Pnr) { p.Queued = false },
		"a phone as a remark":   func(p *api.Pnr) { p.Phones, p.Remarks = p.Phones[:1], append(p.Remarks, "1") },
		"phones for remarks":    func(p *api.Pnr) { p.Phones, p.Remarks = p.Remarks, p.Phones },
		"Locator for Office":    func(p *api.Pnr) { p.Locator, p.Office = p.Office, p.Locator },
		"all":                   func(p *api.Pnr) { *p = api.Pnr{} },
	}
}

func TestSame(t *testing.T) {
	p := rich()
	if !Same(p, p) || !Same(p, rich()) || !Same(rich(), copied(p)) {
		t.Error("one and the same is unlike")
	}
	var all []api.Pnr
	for what, change := range changes() {
		q := copied(p)
		change(&q)
		if Same(p, q) || Same(q, p) {
			t.Errorf("%s: Same is true", what)
		}
		if !Same(q, copied(q)) {
			t.Errorf("%s: unlike itself", what)
		}
		all = append(all, q)
	}
	for i := range all {
		for j := range all {
			if Same(all[i], all[j]) != (i == j) {
				t.Errorf("%d and %d: %v", i, j, i != j)
			}
		}
	}
}

// A field that api might get one day is asked for here: Same, own and the tests name the fields one by one.
func TestFieldsOfAPnr(t *testing.T) {
	if n := reflect.TypeFor[api.Pnr]().NumField(); n != 10 {
		t.Error("fields of a PNR:", n)
	}
	if n := reflect.TypeFor[api.Edit]().NumField(); n != 8 {
		t.Error("fields of an edit:", n)
	}
}

func TestSameOfListsThatAreNilAndEmpty(t *testing.T) {
	empty := api.Pnr{Names: []api.Name{}, Segments: []api.Segment{}, Phones: []string{}, Remarks: []string{}, Seats: []api.Place{}}
	roomy := api.Pnr{Names: make([]api.Name, 0, 3), Segments: make([]api.Segment, 0, 3), Phones: make([]string, 0, 3), Remarks: make([]string, 0, 3), Seats: make([]api.Place, 0, 3)}
	for _, a := range []api.Pnr{{}, empty, roomy} {
		for _, b := range []api.Pnr{{}, empty, roomy} {
			if !Same(a, b) {
				t.Error("nil and empty are unlike")
			}
			if Same(a, rich()) || Same(rich(), b) {
				t.Error("empty and rich are alike")
			}
		}
	}
	// Each list in its turn, the others with something in them.
	for i, cut := range []func(p *api.Pnr, none bool){
		func(p *api.Pnr, none bool) { p.Names = cutOff(p.Names, none) },
		func(p *api.Pnr, none bool) { p.Segments = cutOff(p.Segments, none) },
		func(p *api.Pnr, none bool) { p.Phones = cutOff(p.Phones, none) },
		func(p *api.Pnr, none bool) { p.Remarks = cutOff(p.Remarks, none) },
		func(p *api.Pnr, none bool) { p.Seats = cutOff(p.Seats, none) },
	} {
		a, b := rich(), rich()
		cut(&a, true)
		cut(&b, false)
		if !Same(a, b) || !Same(b, a) || Same(a, rich()) || Same(rich(), b) {
			t.Errorf("the list %d", i)
		}
	}
}

func cutOff[T any](l []T, none bool) []T {
	if none {
		return nil
	}
	return l[:0]
}
