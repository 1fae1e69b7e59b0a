package flight

import (
	"math/rand"
	"reflect"
	"sort"
	"testing"

	"jetway/api"
)

// plain: a schedule as the chapter tells it, as a list that is gone through for each question.
type plain []api.Flight

func ahead(a, b api.Flight) bool {
	if a.Key.Carrier != b.Key.Carrier {
		return a.Key.Carrier < b.Key.Carrier
	}
	return a.Key.Number < b.Key.Number
}

func plainFlies(f api.Flight, day int) bool {
	return day >= 0 && day <= 365 && bits(f.Days)[day%7+1]
}

func (p plain) between(day int, from, to string) []api.Flight {
	var out []api.Flight
	for _, f := range p {
		if plainFlies(f, day) && f.From == from && f.To == to {
			out = append(out, f)
		}
	}
	sort.Slice(out, func(i, j int) bool {
		if out[i].Depart != out[j].Depart {
			return out[i].Depart < out[j].Depart
		}
		return ahead(out[i], out[j])
	})
	return out
}

func (p plain) links(day int, from, to string) [][2]api.Flight {
	var out [][2]api.Flight
	for _, a := range p {
		for _, b := range p {
			fly := plainFlies(a, day) && plainFlies(b, day)
			meet := a.From == from && a.To == b.From && b.To == to && from != to
			if fly && meet && a.Arrive >= a.Depart && b.Depart >= a.Arrive+45 {
				out = append(out, [2]api.Flight{a, b})
			}
		}
	}
	sort.Slice(out, func(i, j int) bool {
		x, y := out[i], out[j]
		switch {
		case x[0].Depart != y[0].Depart:
			return x[0].Depart < y[0].Depart
		case x[0].Key != y[0].Key:
			return ahead(x[0], y[0])
		case x[1].Depart != y[1].Depart:
			return x[1].Depart < y[1].Depart
		}
		return ahead(x[1], y[1])
	})
	return out
}

// drawn: flights of few cities, carriers and minutes, so that many of them meet, and many parts of an order are alike.
func drawn(draw *rand.Rand) plain {
	cities := []string{"LON", "PAR", "ROM", "OSL"}
	var out plain
	seen := map[api.Key]bool{}
	for range draw.Intn(65) {
		f := one([]string{"BA", "7U", "U2"}[draw.Intn(3)], 1+draw.Intn(120), "", "", 15*draw.Intn(96), 15*draw.Intn(96))
		from := draw.Intn(4)
		f.From, f.To = cities[from], cities[(from+1+draw.Intn(3))%4]
		f.Days = uint8(1 + draw.Intn(127))
		f.Plan = draw.Intn(8)
		if draw.Intn(3) == 0 {
			f.Depart = 300
		}
		if !seen[f.Key] {
			seen[f.Key] = true
			out = append(out, f)
		}
	}
	return out
}

// P8.2 and P8.3.

func TestDrawnSchedules(t *testing.T) {
	draw := rand.New(rand.NewSource(83))
	for range 300 {
		p := drawn(draw)
		x := table(t, p...)
		sorted := append(plain{}, p...)
		sort.Slice(sorted, func(i, j int) bool { return ahead(sorted[i], sorted[j]) })
		if got := x.All(); len(got) != len(p) || len(p) > 0 && !reflect.DeepEqual(got, []api.Flight(sorted)) {
			t.Fatalf("All are %q, not %q", names(got), names(sorted))
		}
		for _, f := range p {
			if got, ok := x.Find(f.Key); !ok || !reflect.DeepEqual(got, f) {
				t.Fatalf("Find of %v is %v and %v", f.Key, got, ok)
			}
		}
		for range 20 {
			day := draw.Intn(370) - 2
			from, to := []string{"LON", "PAR", "ROM", "OSL"}[draw.Intn(4)], []string{"LON", "PAR", "ROM", "OSL"}[draw.Intn(4)]
			if got, want := x.Between(day, from, to), p.between(day, from, to); len(got)+len(want) > 0 && !reflect.DeepEqual(got, want) {
				t.Fatalf("Between(%d, %s, %s) is %q, not %q", day, from, to, names(got), names(want))
			}
			if got, want := x.Links(day, from, to), p.links(day, from, to); len(got)+len(want) > 0 && !reflect.DeepEqual(got, want) {
				t.Fatalf("Links(%d, %s, %s) is %q, not %q", day, from, to, linkNames(got), linkNames(want))
			}
		}
	}
}

// Memory.

// spoil writes over all that a flight holds.
func spoil(f *api.Flight) {
	for i := range f.Classes[:cap(f.Classes)] {
		f.Classes[:cap(f.Classes)][i] = api.Class{Letter: '?', Level: -1}
	}
	*f = api.Flight{Key: api.Key{Carrier: "??", Number: -1}, Classes: f.Classes}
}

// asked: all that a table tells.
type asked struct {
	all, between []api.Flight
	found        [2]api.Flight
	links        [][2]api.Flight
	levels       [2]int
}

func ask(x *Table) asked {
	a := asked{all: x.All(), between: x.Between(0, "LON", "PAR"), links: x.Links(0, "LON", "ROM")}
	for i, k := range []api.Key{{Carrier: "BA", Number: 1}, {Carrier: "BA", Number: 3}} {
		a.found[i], _ = x.Find(k)
		a.levels[i], _ = x.Level(api.Leg{Key: k}, 'Y')
	}
	return a
}

// schedule: two first flights and two second ones, so that each stands in two links.
func schedule() []api.Flight {
	return []api.Flight{
		one("BA", 4, "PAR", "ROM", 300, 400), one("BA", 3, "PAR", "ROM", 300, 400), one("BA", 2, "LON", "PAR", 100, 200), one("BA", 1, "LON", "PAR", 100, 200),
	}
}

func TestWhatIsHandedInIsNotKeptAndNotChanged(t *testing.T) {
	room := make([]api.Flight, 6)
	room[4], room[5] = one("ZZ", 98, "LON", "PAR", 1, 2), one("ZZ", 99, "LON", "PAR", 1, 2)
	copy(room, schedule())
	for i := range room {
		// Spare room behind the classes.
		c := append(make([]api.Class, 0, 6), room[i].Classes...)
		copy(c[2:4], []api.Class{{Letter: 'S', Level: 11}, {Letter: 'T', Level: 12}})
		room[i].Classes = c
	}
	x := table(t, room[:4]...)
	want := ask(table(t, schedule()...))
	if got := ask(x); !reflect.DeepEqual(got, want) {
		t.Fatalf("asked: %v, not %v", got, want)
	}
	for i, f := range append(schedule(), one("ZZ", 98, "LON", "PAR", 1, 2), one("ZZ", 99, "LON", "PAR", 1, 2)) {
		if !reflect.DeepEqual(room[i], f) {
			t.Errorf("the flight %d that was handed in is now %v", i, room[i])
		}
		if spare := room[i].Classes[2:4]; spare[0] != (api.Class{Letter: 'S', Level: 11}) || spare[1] != (api.Class{Letter: 'T', Level: 12}) {
			t.Errorf("the spare room of the flight %d is now %v", i, spare)
		}
	}
	for i := range room {
		spoil(&room[i])
	}
	if got := ask(x); !reflect.DeepEqual(got, want) {
		t.Errorf("behind a change of what was handed in: %v, not %v", got, want)
	}
}

func TestCheckChangesNothing(t *testing.T) {
	for _, f := range []api.Flight{one("BA", 1, "LON", "PAR", 1, 2), one("BA", 0, "LON", "PAR", 1, 2)} {
		f.Classes = lettered("ZYA")
		Check(f)
		if !reflect.DeepEqual(f.Classes, lettered("ZYA")) {
			t.Error("Check changed the classes:", f.Classes)
		}
	}
}

// flights: all that stand in an answer, one by one.
func (a *asked) flights() []*api.Flight {
	out := []*api.Flight{&a.found[0], &a.found[1]}
	for i := range a.all {
		out = append(out, &a.all[i])
	}
	for i := range a.between {
		out = append(out, &a.between[i])
	}
	for i := range a.links {
		out = append(out, &a.links[i][0], &a.links[i][1])
	}
	return out
}

func TestAnswersAreMemoryOfTheirOwn(t *testing.T) {
	x := table(t, schedule()...)
	want, before := ask(x), ask(x)
	count := len(before.flights())
	if count != 2+4+2+8 {
		t.Fatal("flights in all answers:", count)
	}
	// Each flight in turn, wherever it stands: no other of the same answers, and nothing of the table, changes with it.
	for n := range count {
		got := ask(x)
		spoil(got.flights()[n])
		*got.flights()[n] = *want.flights()[n]
		if !reflect.DeepEqual(got, want) {
			t.Errorf("what is written into the flight %d is seen in another one", n)
		}
		if now := ask(x); !reflect.DeepEqual(now, want) {
			t.Errorf("what is written into the flight %d is seen in the table", n)
		}
	}
	if !reflect.DeepEqual(before, want) {
		t.Error("an earlier answer has changed")
	}
}

// The lists themselves, with what room they have: what is laid into one is seen by nobody else.
func TestListsOfAnswersAreApart(t *testing.T) {
	x := table(t, schedule()...)
	want := ask(x)
	got := ask(x)
	for _, list := range [][]api.Flight{got.all, got.between} {
		list = list[:cap(list)]
		for i := range list {
			list[i] = api.Flight{}
		}
	}
	links := got.links[:cap(got.links)]
	for i := range links {
		links[i] = [2]api.Flight{}
	}
	if now := ask(x); !reflect.DeepEqual(now, want) {
		t.Errorf("behind a change of the lists: %v, not %v", now, want)
	}
}

// Two tables have nothing to do with each other, nor has a table with what New refused.
func TestTablesGoTheirOwnWays(t *testing.T) {
	list := schedule()
	x, y := table(t, list...), table(t, list[:1]...)
	want := ask(x)
	refused(t, api.ErrTwice, list[0], list[0])
	if len(y.All()) != 1 || !reflect.DeepEqual(ask(x), want) {
		t.Error("a table has changed")
	}
}
