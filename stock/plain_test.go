package stock

import (
	"math/rand"
	"reflect"
	"testing"

	"jetway/api"
)

// plain: what is sold, as a number for each flight of a short list in its order, each of few days, and each of three classes. It is copied as a value.
type plain struct {
	flights [5]api.Flight
	sold    [5][5][3]int
}

// The classes of plain, and its days: weekdays 1, 2, 6, 1 and 2.
const classes = "CFY"

func days() []int { return []int{0, 1, 5, 364, 365} }

// at: where in plain it stands; false, and the error, if nothing may be sold there.
func (p *plain) at(l api.Leg, class byte) (n *int, level int, e api.Errno) {
	for i, f := range p.flights {
		for j, day := range days() {
			if f.Key != l.Key || day != l.Day || f.Days != 127 && day%7 != 0 {
				continue
			}
			for _, c := range f.Classes {
				for k := range len(classes) {
					if c.Letter == class && classes[k] == class {
						return &p.sold[i][j][k], c.Level, api.OK
					}
				}
			}
			return nil, 0, api.ErrClass
		}
	}
	return nil, 0, api.ErrNone
}

func (p *plain) set(l api.Leg, class byte, n int) api.Errno {
	sold, level, e := p.at(l, class)
	switch {
	case e != api.OK:
		return e
	case n < 0 || n > level:
		return api.ErrRange
	}
	*sold = n
	return api.OK
}

// change: n more are sold, or n fewer; refused is the error where that can't be.
func (p *plain) change(l api.Leg, class byte, n, sign int, refused api.Errno) api.Errno {
	if n <= 0 || n >= 10 {
		return api.ErrRange
	}
	sold, level, e := p.at(l, class)
	if e != api.OK {
		return e
	}
	now := *sold + sign*n
	if now < 0 || now > level {
		return refused
	}
	*sold = now
	return api.OK
}

func (p *plain) legs() []api.Leg {
	var out []api.Leg
	for i, f := range p.flights {
		for j, day := range days() {
			if p.sold[i][j] != [3]int{} {
				out = append(out, api.Leg{Key: f.Key, Day: day})
			}
		}
	}
	return out
}

// line: of the flight that stands there in plain.
func (p *plain) line(i, day int, linked bool) Line {
	f := p.flights[i]
	out := Line{Key: f.Key, From: f.From, To: f.To, Depart: f.Depart, Arrive: f.Arrive, Linked: linked}
	for _, c := range f.Classes {
		sold, level, _ := p.at(api.Leg{Key: f.Key, Day: day}, c.Letter)
		left := level - *sold
		if left > 9 {
			left = 9
		}
		out.Left = append(out.Left, api.Sold{Letter: c.Letter, N: left})
	}
	return out
}

// avail: on a day of plain, from LON to ROM.
func (p *plain) avail(day int) []Line {
	order := []int{3, 1} // without a stop, by their Depart
	links := [][2]int{{0, 2}, {0, 4}}
	if day%7 != 0 {
		order, links = []int{1}, links[:1]
	}
	var out []Line
	for _, i := range order {
		out = append(out, p.line(i, day, false))
	}
	for _, link := range links {
		out = append(out, p.line(link[0], day, false), p.line(link[1], day, true))
	}
	return out
}

// plainly: five flights in their order, two of which fly on the weekday 1 alone, with drawn levels.
func plainly(draw *rand.Rand) plain {
	level := func(n int) int { return []int{draw.Intn(4), 8 + draw.Intn(4), draw.Intn(401), draw.Intn(30)}[n] }
	p := plain{flights: [5]api.Flight{
		one("7U", 10, "LON", "PAR", 100, 200, seats("CY", level(0), level(1))),
		one("BA", 2, "LON", "ROM", 300, 10, seats("CFY", level(3), level(0), level(2))),
		one("BA", 10, "PAR", "ROM", 245, 400, seats("F", level(3))),
		onDays(one("BA", 11, "LON", "ROM", 50, 60, seats("FY", level(1), level(1))), 1),
		onDays(one("U2", 1, "PAR", "ROM", 600, 700, seats("CFY", level(0), level(1), level(3))), 1),
	}}
	return p
}

// drawnLeg: mostly one of plain, but now and then one on which nothing can be sold.
func (p *plain) drawnLeg(draw *rand.Rand) api.Leg {
	l := api.Leg{Key: p.flights[draw.Intn(5)].Key, Day: days()[draw.Intn(5)]}
	switch draw.Intn(20) {
	case 0:
		l.Key.Number++
	case 1:
		l.Key.Carrier = "XX"
	case 2:
		l.Day = []int{-1, -7, 366, 371}[draw.Intn(4)]
	}
	return l
}

// same: does the stock tell all that plain does? So also: is no more sold than the level?
func same(t *testing.T, s *Stock, p *plain) {
	t.Helper()
	for _, f := range p.flights {
		for _, day := range append(days(), -1, 366) {
			for _, class := range []byte("CFYZ") {
				l := api.Leg{Key: f.Key, Day: day}
				sold, level, e := p.at(l, class)
				if e != api.OK {
					sold = new(int)
				}
				has(t, s, l, class, *sold, level-*sold)
				if got := s.Sold(l, class); got < 0 || got > level {
					t.Errorf("of the level %d %d are sold", level, got)
				}
			}
		}
	}
	if got, want := names(s.Legs()), names(p.legs()); got != want {
		t.Errorf("legs are %q, not %q", got, want)
	}
	for _, day := range days() {
		if got, want := s.Avail(day, "LON", "ROM"), p.avail(day); !reflect.DeepEqual(got, want) {
			t.Errorf("Avail on the day %d is %v, not %v", day, got, want)
		}
	}
}

// step: one drawn call, of both.
func step(t *testing.T, draw *rand.Rand, s *Stock, p *plain) {
	t.Helper()
	l, class, n := p.drawnLeg(draw), "CFYZ"[draw.Intn(4)], draw.Intn(12)-1
	switch draw.Intn(5) {
	case 0:
		if _, level, _ := p.at(l, class); draw.Intn(2) == 0 {
			n = draw.Intn(level+3) - 1
		}
		is(t, "Set", s.Set(l, class, n), p.set(l, class, n))
	case 1, 2:
		is(t, "Sell", s.Sell(l, class, n), p.change(l, class, n, 1, api.ErrSold))
	default:
		is(t, "Cancel", s.Cancel(l, class, n), p.change(l, class, n, -1, api.ErrState))
	}
}

// P10.1 to P10.3.

func TestDrawnSales(t *testing.T) {
	draw := rand.New(rand.NewSource(101))
	for range 40 {
		p := plainly(draw)
		s := New(table(t, p.flights[:]...))
		for range 150 {
			step(t, draw, s, &p)
			same(t, s, &p)
		}
		if t.Failed() {
			t.FailNow()
		}
	}
}

// Three that come of one another by Copy, again and again, and go their own ways.
func TestDrawnCopies(t *testing.T) {
	draw := rand.New(rand.NewSource(102))
	for range 40 {
		first := plainly(draw)
		x := table(t, first.flights[:]...)
		stocks, plains := [3]*Stock{New(x), New(x), New(x)}, [3]plain{first, first, first}
		for range 150 {
			n := draw.Intn(3)
			if draw.Intn(6) == 0 {
				from := draw.Intn(3)
				stocks[n], plains[n] = stocks[from].Copy(), plains[from]
			} else {
				step(t, draw, stocks[n], &plains[n])
			}
			for i := range stocks {
				same(t, stocks[i], &plains[i])
			}
		}
		if t.Failed() {
			t.FailNow()
		}
	}
}

// Copy.

func TestCopyBeforeAndBehindSales(t *testing.T) {
	s, l, m := single(t, 9), leg("BA", 1, 5), leg("BA", 2, 6)
	empty := s.Copy()
	is(t, "Sell in the first", s.Sell(l, 'Y', 5), api.OK)
	has(t, empty, l, 'Y', 0, 9)
	isText(t, "legs of the copy", names(empty.Legs()), "")
	c := s.Copy()
	has(t, c, l, 'Y', 5, 4)
	isText(t, "legs of the second copy", names(c.Legs()), "BA1.5")
	isText(t, "Avail of the second copy", told(c.Avail(5, "LON", "PAR")), "BA1:Y4 BA2:Y9")
	// On the first one's side.
	is(t, "Sell in the first", s.Sell(l, 'Y', 4), api.OK)
	is(t, "Sell in the first", s.Sell(m, 'Y', 1), api.OK)
	has(t, c, l, 'Y', 5, 4)
	has(t, c, m, 'Y', 0, 9)
	isText(t, "legs of the second copy", names(c.Legs()), "BA1.5")
	// On the copy's side: it has the levels, too.
	is(t, "Sell in the copy", c.Sell(l, 'Y', 5), api.ErrSold)
	is(t, "Cancel in the copy", c.Cancel(l, 'Y', 6), api.ErrState)
	is(t, "Cancel in the copy", c.Cancel(l, 'Y', 5), api.OK)
	is(t, "Set in the copy", c.Set(m, 'Y', 7), api.OK)
	isText(t, "legs of the second copy", names(c.Legs()), "BA2.6")
	has(t, s, l, 'Y', 9, 0)
	has(t, s, m, 'Y', 1, 8)
	isText(t, "legs of the first", names(s.Legs()), "BA1.5 BA2.6")
	// The copy of nothing sold takes sales, too, and a copy of a copy.
	is(t, "Sell in the empty copy", empty.Sell(m, 'Y', 2), api.OK)
	again := empty.Copy()
	is(t, "Cancel in its copy", again.Cancel(m, 'Y', 2), api.OK)
	has(t, empty, m, 'Y', 2, 7)
	has(t, again, m, 'Y', 0, 9)
	has(t, s, m, 'Y', 1, 8)
	has(t, c, m, 'Y', 7, 2)
}

// P10.3.

func TestSoldAndCancelledIsAsItWas(t *testing.T) {
	draw := rand.New(rand.NewSource(103))
	p := plainly(draw)
	s := New(table(t, p.flights[:]...))
	for range 400 {
		step(t, draw, s, &p)
	}
	type sale struct {
		leg   api.Leg
		class byte
		n     int
	}
	var sales []sale
	before := p
	for range 2000 {
		x := sale{p.drawnLeg(draw), "CFYZ"[draw.Intn(4)], 1 + draw.Intn(9)}
		if s.Sell(x.leg, x.class, x.n) == api.OK {
			sales = append(sales, x)
		}
	}
	if len(sales) < 30 {
		t.Error("sales:", len(sales))
	}
	draw.Shuffle(len(sales), func(i, j int) { sales[i], sales[j] = sales[j], sales[i] })
	for _, x := range sales {
		is(t, "Cancel", s.Cancel(x.leg, x.class, x.n), api.OK)
	}
	same(t, s, &before)
}
