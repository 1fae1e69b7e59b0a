package hold

import (
	"math/rand"
	"strconv"
	"testing"

	"jetway/api"
)

// plain: of a few legs and seats whose each one is, as a number of holders(), and 0 where it is nobody's. It is copied as a value.
type plain [6][7]int

// The legs of plain in their order, and its seats in theirs. BA2 flies on weekday 1 alone, and has no map.
func legs() [6]api.Leg {
	return [6]api.Leg{leg("AA", 30, 0), leg("BA", 1, 3), leg("BA", 1, 20), leg("BA", 1, 100), leg("BA", 10, 0), leg("BA", 10, 7)}
}

func seats() [7]api.Seat {
	return [7]api.Seat{seat("2A"), seat("2C"), seat("3B"), seat("3C"), seat("10A"), seat("10B"), seat("10C")}
}

func plainly(t *testing.T) *Book {
	t.Helper()
	m := cabin(t, 2, 10, "A.BC", seat("2B"))
	return New(table(t, one("BA", 10, 1), one("BA", 1, 1), onDays(one("BA", 2, 2), 1), one("AA", 30, 0)), m, m)
}

// at: where in plain it stands, or the error of what stands nowhere.
func (p *plain) at(l api.Leg, s api.Seat) (*int, api.Errno) {
	for i, x := range legs() {
		if x != l {
			continue
		}
		for j, y := range seats() {
			if y == s {
				return &p[i][j], api.OK
			}
		}
		return nil, api.ErrSeat
	}
	if l == leg("BA", 2, 7) {
		return nil, api.ErrSeat
	}
	return nil, api.ErrNone
}

func (p *plain) take(l api.Leg, s api.Seat, h int) api.Errno {
	now, e := p.at(l, s)
	switch {
	case e != api.OK:
		return e
	case *now == h:
		return api.ErrTwice
	case *now != 0:
		return api.ErrTaken
	}
	*now = h
	return api.OK
}

func (p *plain) free(l api.Leg, s api.Seat, h int) api.Errno {
	now, e := p.at(l, s)
	if e != api.OK {
		return e
	}
	if *now != h {
		return api.ErrState
	}
	*now = 0
	return api.OK
}

// same: does the book tell all that plain does?
func same(t *testing.T, b *Book, p *plain) {
	t.Helper()
	wantLegs := []api.Leg{}
	for i, l := range legs() {
		want := []api.Held{}
		for j, s := range seats() {
			if !b.Has(l, s) {
				t.Errorf("%v has no seat %v", l, s)
			}
			if p[i][j] == 0 {
				nobodys(t, b, l, s)
				continue
			}
			h := holders()[p[i][j]-1]
			whose(t, b, l, s, h)
			want = append(want, api.Held{Seat: s, Holder: h})
		}
		isText(t, "On", told(b.On(l)), told(want))
		if len(want) > 0 {
			wantLegs = append(wantLegs, l)
		}
	}
	isText(t, "Legs", names(b.Legs()), names(wantLegs))
}

// drawn: a leg, a seat and a holder's number, mostly of plain, but now and then what there isn't.
func drawn(draw *rand.Rand) (api.Leg, api.Seat, int) {
	l, s := legs()[draw.Intn(6)], seats()[draw.Intn(7)]
	switch draw.Intn(30) {
	case 0:
		l = []api.Leg{leg("BA", 2, 7), leg("BA", 2, 8), leg("BA", 3, 7), leg("AA", 1, 3), leg("BA", 1, 366), leg("BA", 10, -7), {}}[draw.Intn(7)]
	case 1:
		s = []api.Seat{seat("2B"), seat("1A"), seat("11A"), seat("2D"), seat("0A"), seat("-2A"), {}}[draw.Intn(7)]
	case 2:
		l, s = leg("BA", 2, 8), seat("2B")
	}
	return l, s, 1 + draw.Intn(4)
}

// step: one drawn call, of both.
func step(t *testing.T, draw *rand.Rand, b *Book, p *plain) {
	t.Helper()
	l, s, n := drawn(draw)
	// The one who has it, half of the time.
	if now, e := p.at(l, s); e == api.OK && *now != 0 && draw.Intn(2) == 0 {
		n = *now
	}
	h, what := holders()[n-1], " "+strconv.Itoa(n)+" "+names([]api.Leg{l})
	if draw.Intn(2) == 0 {
		is(t, "Take"+what, b.Take(l, s, h), p.take(l, s, n))
	} else {
		is(t, "Free"+what, b.Free(l, s, h), p.free(l, s, n))
	}
}

// P11.1 to P11.4.

func TestDrawnSeats(t *testing.T) {
	draw := rand.New(rand.NewSource(111))
	for range 20 {
		var p plain
		b := plainly(t)
		for range 200 {
			step(t, draw, b, &p)
			same(t, b, &p)
		}
		if t.Failed() {
			t.FailNow()
		}
	}
}

// Three that come of one another by Copy, again and again, and go their own ways.
func TestDrawnCopies(t *testing.T) {
	draw := rand.New(rand.NewSource(112))
	for range 20 {
		books, plains := [3]*Book{plainly(t), plainly(t), plainly(t)}, [3]plain{}
		for range 150 {
			n := draw.Intn(3)
			if draw.Intn(6) == 0 {
				from := draw.Intn(3)
				books[n], plains[n] = books[from].Copy(), plains[from]
			} else {
				step(t, draw, books[n], &plains[n])
			}
			for i := range books {
				same(t, books[i], &plains[i])
			}
		}
		if t.Failed() {
			t.FailNow()
		}
	}
}
