package pnr

import (
	"math/rand"
	"regexp"
	"strconv"
	"strings"
	"testing"

	"jetway/api"
)

// A model of the table of P12.1: for each kind its questions in their order, and what it changes, both reckoned anew from the words of the chapter.

var (
	plainPerson  = regexp.MustCompile(`^[A-Z]{1,16}$`)
	plainCarrier = regexp.MustCompile(`^([A-Z][A-Z0-9]|[0-9][A-Z])$`)
	plainFree    = regexp.MustCompile(`^[A-Z0-9./-]+( [A-Z0-9./-]+)*$`)
)

// question: an error, and whether it applies.
type question struct {
	is    bool
	wrong api.Errno
}

func between(n, least, most int) bool { return least <= n && n <= most }

func isLetter(c byte) bool { return strings.IndexByte("ABCDEFGHIJKLMNOPQRSTUVWXYZ", c) >= 0 }

func plainText(s string) bool { return len(s) <= 40 && plainFree.MatchString(s) }

func plainSegment(s api.Segment) bool {
	k := s.Leg.Key
	return plainCarrier.MatchString(k.Carrier) && between(k.Number, 1, 9999) && between(s.Leg.Day, 0, 365) && isLetter(s.Class) && s.Live
}

func plainTicket(x api.Ticket) bool {
	return x.Kind == 1 && between(x.Day, 0, 365) && between(x.Minute, 0, 1439) || x.Kind == 2 && x.Day == 0 && x.Minute == 0
}

func questions(p api.Pnr, e api.Edit) []question {
	twice, taken, has := false, false, false
	for _, s := range p.Segments {
		twice = twice || s.Live && s.Leg == e.Segment.Leg
	}
	for _, x := range p.Seats {
		taken = taken || x.Segment == e.N && x.Pax != e.Pax && x.Seat == e.Seat
		has = has || x.Segment == e.N && x.Pax == e.Pax
	}
	segment := question{!between(e.N, 1, len(p.Segments)) || !p.Segments[e.N-1].Live, api.ErrSegment}
	passenger := question{!between(e.Pax, 1, len(p.Names)), api.ErrPassenger}
	text := question{!plainText(e.Text), api.ErrForm}
	switch e.Kind {
	case 1:
		return []question{{!plainPerson.MatchString(e.Name.Last), api.ErrForm}, {!plainPerson.MatchString(e.Name.First), api.ErrForm}, {p.Locator != "", api.ErrState}, {len(p.Names) > 8, api.ErrMany}}
	case 2:
		return []question{{!plainSegment(e.Segment), api.ErrForm}, {twice, api.ErrTwice}, {len(p.Segments) > 7, api.ErrMany}}
	case 3:
		return []question{text, {len(p.Phones) > 3, api.ErrMany}}
	case 4:
		return []question{{!plainTicket(e.Ticket), api.ErrForm}}
	case 5:
		return []question{text}
	case 6:
		return []question{text, {len(p.Remarks) > 9, api.ErrMany}}
	case 7:
		return []question{segment}
	case 8:
		return []question{{!between(e.Seat.Row, 1, 99) || !isLetter(e.Seat.Letter), api.ErrForm}, segment, passenger, {taken, api.ErrTaken}}
	case 9:
		return []question{segment, passenger, {!has, api.ErrNone}}
	}
	return []question{{true, api.ErrForm}}
}

// plainly: what Apply is to answer.
func plainly(p api.Pnr, e api.Edit) (api.Pnr, api.Errno) {
	for _, q := range questions(p, e) {
		if q.is {
			return api.Pnr{}, q.wrong
		}
	}
	p = copied(p)
	switch e.Kind {
	case 1:
		p.Names = append(p.Names, e.Name)
	case 2:
		p.Segments = append(p.Segments, e.Segment)
	case 3:
		p.Phones = append(p.Phones, e.Text)
	case 4:
		p.Ticket, p.Queued = e.Ticket, false
	case 5:
		p.Received = e.Text
	case 6:
		p.Remarks = append(p.Remarks, e.Text)
	case 7:
		p.Segments[e.N-1].Live = false
		p.Seats = plainSeats(p.Seats, e)
	case 8, 9:
		p.Seats = plainSeats(p.Seats, e)
	}
	return p, api.OK
}

// plainSeats: goes through the places once, with the new one laid down ahead of the first that is behind it.
func plainSeats(l []api.Place, e api.Edit) []api.Place {
	var out []api.Place
	laid := e.Kind != 8
	for _, x := range l {
		if x.Segment == e.N && (e.Kind == 7 || x.Pax == e.Pax) {
			continue
		}
		if !laid && (x.Segment > e.N || x.Segment == e.N && x.Pax > e.Pax) {
			out, laid = append(out, api.Place{Segment: e.N, Pax: e.Pax, Seat: e.Seat}), true
		}
		out = append(out, x)
	}
	if !laid {
		out = append(out, api.Place{Segment: e.N, Pax: e.Pax, Seat: e.Seat})
	}
	return out
}

// asPlain: does Apply answer what the model does? What comes of the edit, or what there was.
func asPlain(t *testing.T, p api.Pnr, e api.Edit) api.Pnr {
	t.Helper()
	want, wrong := plainly(p, e)
	if wrong != api.OK {
		refused(t, "refused "+strconv.Itoa(e.Kind), p, e, wrong)
		return p
	}
	becomes(t, "done "+strconv.Itoa(e.Kind), p, e, want)
	return want
}

// P12.4.

// isRight: what holds of the empty PNR and any edits.
func isRight(t *testing.T, p api.Pnr) {
	t.Helper()
	whose := map[[2]int]api.Seat{}
	taken := map[int]map[api.Seat]int{}
	last := [2]int{}
	for _, x := range p.Seats {
		at := [2]int{x.Segment, x.Pax}
		if at[0] < last[0] || at[0] == last[0] && at[1] <= last[1] {
			t.Error("not by segments, then by passengers:", told(p.Seats))
		}
		last = at
		if _, twice := whose[at]; twice {
			t.Error("a passenger has two seats in a segment:", told(p.Seats))
		}
		whose[at] = x.Seat
		if taken[x.Segment] == nil {
			taken[x.Segment] = map[api.Seat]int{}
		}
		if taken[x.Segment][x.Seat]++; taken[x.Segment][x.Seat] > 1 {
			t.Error("a seat is two passengers':", told(p.Seats))
		}
		if !between(x.Segment, 1, len(p.Segments)) || !p.Segments[x.Segment-1].Live || !between(x.Pax, 1, len(p.Names)) {
			t.Error("a seat of no live segment, or of nobody:", told(p.Seats))
		}
	}
	if len(p.Names) > 9 || len(p.Segments) > 8 || len(p.Phones) > 4 || len(p.Remarks) > 10 || p.Locator != "" || p.Office != "" || p.Queued {
		t.Errorf("not of edits: %+v", p)
	}
}

// Every row of four out of edits that have to do with seats.
func TestEveryRowOfFewEdits(t *testing.T) {
	var edits []api.Edit
	for n := 1; n <= 2; n++ {
		edits = append(edits, segment(n), drop(n))
		for pax := 1; pax <= 2; pax++ {
			edits = append(edits, free(n, pax), give(n, pax, "1A"), give(n, pax, "2A"))
		}
	}
	var further func(p api.Pnr, depth int)
	further = func(p api.Pnr, depth int) {
		isRight(t, p)
		if depth == 0 || t.Failed() {
			return
		}
		for _, e := range edits {
			want, wrong := plainly(p, e)
			got, is := Apply(p, e)
			if is != wrong || !Same(got, want) {
				t.Fatalf("behind %+v the edit %+v: %v, not %v", p, e, is, wrong)
			}
			if is == api.OK {
				further(got, depth-1)
			}
		}
	}
	further(made(t, name("A", "A"), name("A", "B"), segment(1)), 5)
	further(made(t, name("A", "A"), name("A", "B"), segment(1), segment(2), give(1, 1, "1A"), give(2, 2, "1A")), 5)
}

// Drawing.

func pick[T any](draw *rand.Rand, l ...T) T { return l[draw.Intn(len(l))] }

func drawnLeg(draw *rand.Rand) api.Leg {
	return leg(pick(draw, "BA", "BA", "7U"), pick(draw, 1, 2, 9999), pick(draw, 0, 5, 365))
}

func drawnSeat(draw *rand.Rand) api.Seat {
	return api.Seat{Row: pick(draw, 1, 2, 99), Letter: pick(draw, byte('A'), 'B', 'Z')}
}

// drawnEdit: mostly one that is right in itself.
func drawnEdit(draw *rand.Rand) api.Edit {
	e := api.Edit{
		Kind:    pick(draw, 1, 1, 2, 2, 3, 4, 5, 6, 7, 8, 8, 8, 8, 8, 9, 9),
		Name:    api.Name{Last: pick(draw, "A", "SMITH"), First: pick(draw, "B", "ANN", strings.Repeat("Z", 16))},
		Segment: live(drawnLeg(draw), pick(draw, byte('Y'), 'C', 'A', 'Z')),
		Ticket:  pick(draw, api.Ticket{Kind: 2}, api.Ticket{Kind: 1, Day: draw.Intn(366), Minute: draw.Intn(1440)}),
		Text:    pick(draw, goodTexts()...),
		N:       pick(draw, 1, 1, 1, 2, 2, 3, 4, 5), Pax: pick(draw, 1, 1, 2, 2, 3, 4), Seat: drawnSeat(draw),
	}
	if draw.Intn(6) > 0 {
		return e
	}
	switch draw.Intn(9) {
	case 0:
		e.Kind = pick(draw, 0, 10, -1, 1<<32+1)
	case 1:
		e.Name.Last = pick(draw, noPersons()...)
	case 2:
		e.Name.First = pick(draw, noPersons()...)
	case 3:
		e.Segment = pick(draw, noSegments()...)
	case 4:
		e.Ticket = pick(draw, noTickets()...)
	case 5:
		e.Text = pick(draw, noTexts()...)
	case 6:
		e.Seat = pick(draw, noSeats()...)
	case 7:
		e.N = pick(draw, noNumbers(8)...)
	case 8:
		e.Pax = pick(draw, noNumbers(9)...)
	}
	return e
}

// P12.1, P12.2 and P12.4.

func TestDrawnRowsOfEdits(t *testing.T) {
	draw := rand.New(rand.NewSource(121))
	done := map[int]int{}
	for range 400 {
		p := api.Pnr{}
		for range 50 {
			e := drawnEdit(draw)
			q := asPlain(t, p, e)
			if !Same(p, q) {
				done[e.Kind]++
			}
			p = q
			isRight(t, p)
		}
		if t.Failed() {
			t.FailNow()
		}
	}
	for kind := 1; kind <= 9; kind++ {
		if done[kind] < 100 {
			t.Errorf("the kind %d was done %d times", kind, done[kind])
		}
	}
}

func TestDrawnFolds(t *testing.T) {
	draw := rand.New(rand.NewSource(122))
	for range 3000 {
		p := drawnPnr(draw)
		want, count, wrong := copied(p), 0, api.OK
		var row []api.Edit
		for range draw.Intn(20) {
			e := drawnEdit(draw)
			row = append(row, e)
			if wrong != api.OK {
				continue
			}
			var next api.Pnr
			if next, wrong = plainly(want, e); wrong == api.OK {
				want, count = next, count+1
			}
		}
		q, done, e := Fold(p, row...)
		if done != count || e != wrong {
			t.Fatalf("%d were done, not %d: %v, not %v", done, count, e, wrong)
		}
		isPnr(t, "a row", q, want)
	}
}

// drawnPnr: one of any kind; its places stand anyhow.
func drawnPnr(draw *rand.Rand) api.Pnr {
	p := api.Pnr{Locator: pick(draw, "", "", "IIDISM", "x"), Office: pick(draw, "", "LON"), Received: pick(draw, "", "ANN", "  "), Queued: draw.Intn(2) == 0}
	p.Ticket = api.Ticket{Kind: draw.Intn(4), Day: draw.Intn(3), Minute: draw.Intn(3)}
	p.Names = make([]api.Name, draw.Intn(11))
	for range draw.Intn(10) {
		p.Segments = append(p.Segments, api.Segment{Leg: drawnLeg(draw), Class: 'Y', Live: draw.Intn(3) > 0})
	}
	p.Phones = make([]string, draw.Intn(6))
	p.Remarks = make([]string, draw.Intn(12))
	for range draw.Intn(12) {
		p.Seats = append(p.Seats, api.Place{Segment: draw.Intn(7), Pax: draw.Intn(6), Seat: drawnSeat(draw)})
	}
	return p
}

func TestDrawnEditsOfAnyPnr(t *testing.T) {
	draw := rand.New(rand.NewSource(123))
	errors := map[api.Errno]int{}
	for range 20000 {
		p, e := drawnPnr(draw), drawnEdit(draw)
		asPlain(t, p, e)
		_, wrong := plainly(p, e)
		errors[wrong]++
		if t.Failed() {
			t.Fatalf("of %+v and %+v", p, e)
		}
	}
	for _, e := range []api.Errno{api.OK, api.ErrForm, api.ErrState, api.ErrTwice, api.ErrNone, api.ErrTaken, api.ErrSegment, api.ErrPassenger, api.ErrMany} {
		if errors[e] < 100 {
			t.Errorf("%v was told %d times", e, errors[e])
		}
	}
}
