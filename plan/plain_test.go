package plan

import (
	"math/rand"
	"reflect"
	"slices"
	"testing"

	"jetway/api"
)

// plain: what the chapter says of one place, worked out for each plan by going through its rows and letters.
type plain struct {
	seat    api.Seat
	blocked bool
	marks   string
}

func plainPlaces(p api.Plan) []plain {
	var letters []byte
	beside := map[byte]bool{}
	for i, c := range []byte(p.Letters) {
		if c != '.' {
			letters = append(letters, c)
			continue
		}
		beside[p.Letters[i-1]], beside[p.Letters[i+1]] = true, true
	}
	var out []plain
	for row := p.First; row <= p.Last; row++ {
		for i, c := range letters {
			x := plain{seat: api.Seat{Row: row, Letter: c}}
			x.blocked = slices.Contains(p.Blocked, x.seat)
			if i == 0 || i == len(letters)-1 {
				x.marks += "W"
			}
			if beside[c] {
				x.marks += "A"
			}
			if slices.Contains(p.Exits, row) {
				x.marks += "E"
			}
			if x.blocked {
				x.marks = ""
			}
			out = append(out, x)
		}
	}
	return out
}

// drawn: a plan that is right.
func drawn(draw *rand.Rand) api.Plan {
	p := api.Plan{First: 1 + draw.Intn(60)}
	p.Last = p.First + draw.Intn(61-p.First)
	letters := draw.Perm(26)[:1+draw.Intn(10)]
	slices.Sort(letters)
	for i, n := range letters {
		if i > 0 && draw.Intn(3) == 0 {
			p.Letters += "."
		}
		p.Letters += string(rune('A' + n))
	}
	for row := p.First; row <= p.Last; row++ {
		if draw.Intn(5) == 0 {
			p.Exits = append(p.Exits, row)
		}
	}
	often := 1 + draw.Intn(20)
	for _, x := range plainPlaces(p) {
		if len(p.Blocked) < 40 && draw.Intn(often) == 0 {
			p.Blocked = append(p.Blocked, x.seat)
		}
	}
	return p
}

// P9.2.

func TestDrawnPlans(t *testing.T) {
	draw := rand.New(rand.NewSource(92))
	for range 300 {
		p := drawn(draw)
		isRight(t, "drawn", p)
		m := mapOf(t, p)
		var seats []api.Seat
		numbers := map[api.Seat]int{}
		for i, x := range plainPlaces(p) {
			numbers[x.seat] = i
			if !x.blocked {
				seats = append(seats, x.seat)
			}
			if m.Marks(x.seat) != x.marks || m.Has(x.seat) == x.blocked {
				t.Fatalf("of %v in %v: Marks %q, Has %v, not %v", x.seat, p, m.Marks(x.seat), m.Has(x.seat), x)
			}
		}
		if got := m.Seats(); len(got) != len(seats) || len(seats) > 0 && !reflect.DeepEqual(got, seats) {
			t.Fatalf("Seats of %v are %q, not %q", p, names(got), names(seats))
		}
		for row := -1; row <= 101; row++ {
			for letter := '-'; letter <= 'a'; letter++ {
				s := api.Seat{Row: row, Letter: byte(letter)}
				want, there := numbers[s]
				if !there {
					want = -1
				}
				if got := m.Number(s); got != want || !there && (m.Has(s) || m.Marks(s) != "") {
					t.Fatalf("Number of %v in %v is %d, not %d", s, p, got, want)
				}
			}
		}
	}
}

// TestDrawnWrongPlans puts one thing out of place in plans that are right.
func TestDrawnWrongPlans(t *testing.T) {
	draw := rand.New(rand.NewSource(93))
	for range 300 {
		p := drawn(draw)
		q := p
		q.First = p.Last + 1 + draw.Intn(3)
		isWrong(t, "First above Last", q)
		q = p
		at := draw.Intn(len(p.Letters))
		q.Letters = p.Letters[:at] + p.Letters[at:at+1] + p.Letters[at:]
		isWrong(t, "a byte of Letters twice", q)
		if len(p.Exits) > 1 {
			q = p
			q.Exits = slices.Clone(p.Exits)
			slices.Reverse(q.Exits)
			isWrong(t, "Exits falling", q)
		}
		if len(p.Blocked) > 0 {
			q = p
			at := draw.Intn(len(p.Blocked))
			q.Blocked = slices.Insert(slices.Clone(p.Blocked), at, p.Blocked[at])
			isWrong(t, "Blocked twice", q)
			q.Blocked = slices.Clone(p.Blocked)
			q.Blocked[at].Row = p.Last + 1
			isWrong(t, "Blocked out of the plan", q)
		}
	}
}

// P9.3.

func TestDrawnBits(t *testing.T) {
	draw := rand.New(rand.NewSource(94))
	for range 500 {
		p := drawn(draw)
		m := mapOf(t, p)
		all := plainPlaces(p)
		want := make([]uint64, (len(all)-1)/64+1)
		often := 1 + draw.Intn(10)
		var seats []api.Seat
		for i, x := range all {
			if !x.blocked && draw.Intn(often) == 0 {
				seats = append(seats, x.seat)
				want[i/64] += pow(i % 64)
			}
		}
		mixed := slices.Clone(seats)
		draw.Shuffle(len(mixed), func(i, j int) { mixed[i], mixed[j] = mixed[j], mixed[i] })
		if got, e := m.Bits(mixed...); e != api.OK || !reflect.DeepEqual(got, want) {
			t.Fatalf("Bits of %q in %v are %v and %v, not %v", names(mixed), p, got, e, want)
		}
		if got, e := m.Of(want); e != api.OK || names(got) != names(seats) {
			t.Fatalf("Of of %v in %v is %q and %v, not %q", want, p, names(got), e, names(seats))
		}
		if len(mixed) > 0 {
			noBits(t, m, api.ErrTwice, append(slices.Clone(mixed), mixed[draw.Intn(len(mixed))])...)
		}
		noSeats(t, m, api.ErrSize, append(slices.Clone(want), 0)...)
		noSeats(t, m, api.ErrSize, want[1:]...)
		for i := range len(want) * 64 {
			if i >= len(all) || all[i].blocked {
				bad := slices.Clone(want)
				bad[i/64] += pow(i % 64)
				noSeats(t, m, api.ErrSeat, bad...)
			}
		}
	}
}

// pow: 2 to the power of n, without a shift.
func pow(n int) uint64 {
	out := uint64(1)
	for range n {
		out *= 2
	}
	return out
}

// Rule 3: what is handed in stays as it is and isn't kept, and answers are new memory.

func TestHandedInIsNotKept(t *testing.T) {
	exits := []int{2, 3, 99}
	seats := list("1B 3C 9Z")
	p := api.Plan{First: 1, Last: 3, Letters: "AB.C", Exits: exits[:1], Blocked: seats[:1]}
	m := mapOf(t, p)
	if Check(p) != api.OK || !reflect.DeepEqual(exits, []int{2, 3, 99}) || names(seats) != "1B 3C 9Z" {
		t.Errorf("Check or New have changed what was handed in: %v, %v", exits, seats)
	}
	p.Exits[0], p.Blocked[0] = 3, seat("2B")
	want := "1A:0+W 1B:1 1C:2+WA 2A:3+WE 2B:4+AE 2C:5+WAE 3A:6+W 3B:7+A 3C:8+WA"
	if got := told(m, "1A 1B 1C 2A 2B 2C 3A 3B 3C"); got != want {
		t.Errorf("a change of the plan behind New changes the map: %s", got)
	}
	asked := list("3C 1A 9Z")
	if _, e := m.Bits(asked[:2]...); e != api.OK || names(asked) != "3C 1A 9Z" {
		t.Errorf("Bits have changed what was handed in: %v, %v", e, asked)
	}
	noBits(t, m, api.ErrSeat, asked...)
	if names(asked) != "3C 1A 9Z" {
		t.Errorf("Bits have changed what was handed in: %v", asked)
	}
	bits := []uint64{257, 7}
	if _, e := m.Of(bits[:1]); e != api.OK || !reflect.DeepEqual(bits, []uint64{257, 7}) {
		t.Errorf("Of has changed what was handed in: %v, %v", e, bits)
	}
}

func TestAnswersAreNewMemory(t *testing.T) {
	m := mapOf(t, example())
	for range 3 {
		a, b := m.Seats(), m.Seats()
		for i := range a {
			a[i] = api.Seat{Row: 77, Letter: 'Q'}
		}
		a = append(a, a...)
		if got, want := names(b), "1A 1C 2A 2B 2C 3A 3B 3C"; got != want || len(a) != 16 {
			t.Errorf("Seats share memory: %q", got)
		}
		bits, _ := m.Bits(seat("1A"))
		bits[0] = 2
		if got, e := m.Bits(seat("1A")); e != api.OK || got[0] != 1 {
			t.Errorf("Bits share memory: %v and %v", got, e)
		}
		of, _ := m.Of([]uint64{257})
		of[0], of[1] = of[1], of[0]
		if got, e := m.Of([]uint64{257}); e != api.OK || names(got) != "1A 3C" {
			t.Errorf("Of shares memory: %q and %v", names(got), e)
		}
	}
}

// TestMapsAreApart: maps of unlike plans have nothing to do with each other.
func TestMapsAreApart(t *testing.T) {
	a := mapOf(t, example())
	b := mapOf(t, blocked(rows(2, 4, "A.D"), "2A"))
	if a.Has(seat("4A")) || !b.Has(seat("4A")) || a.Number(seat("2A")) != 3 || b.Number(seat("2A")) != 0 || !a.Has(seat("2A")) || b.Has(seat("2A")) {
		t.Error("two maps mix")
	}
}

// Rule 1 and rule 4: an error changes nothing, and the same question has the same answer.

func TestErrorsLeaveNothing(t *testing.T) {
	m := mapOf(t, example())
	for range 3 {
		noBits(t, m, api.ErrTwice, list("1A 2B 1A")...)
		noBits(t, m, api.ErrSeat, list("3C 1B")...)
		noSeats(t, m, api.ErrSeat, 3)
		noSeats(t, m, api.ErrSize)
		hasBits(t, m, "1A 2B", 17)
		hasBits(t, m, "", 0)
	}
}
