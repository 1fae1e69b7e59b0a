package pnr

import (
	"reflect"
	"slices"
	"testing"

	"jetway/api"
)

const spare = 5

// roomy: the PNR with room behind each of its lists, in which something stands that nobody may touch.
func roomy(p api.Pnr) api.Pnr {
	p.Names = withRoom(p.Names, api.Name{Last: "ROOM"})
	p.Segments = withRoom(p.Segments, live(leg("RO", 1, 1), 'M'))
	p.Phones = withRoom(p.Phones, "ROOM")
	p.Remarks = withRoom(p.Remarks, "ROOM")
	p.Seats = withRoom(p.Seats, api.Place{Segment: 1, Pax: 1, Seat: seat("77R")})
	return p
}

func withRoom[T any](l []T, x T) []T {
	out := append([]T{}, l...)
	for range spare {
		out = append(out, x)
	}
	return out[:len(l):len(out)]
}

// reach: a copy of it whose lists have all that stands in its arrays, the spare room too.
func reach(p api.Pnr) api.Pnr {
	p.Names = p.Names[:cap(p.Names)]
	p.Segments = p.Segments[:cap(p.Segments)]
	p.Phones = p.Phones[:cap(p.Phones)]
	p.Remarks = p.Remarks[:cap(p.Remarks)]
	p.Seats = p.Seats[:cap(p.Seats)]
	return copied(p)
}

// spoil: writes over all that stands in its arrays.
func spoil(p api.Pnr) {
	fillWith(p.Names, api.Name{Last: "SPOILT"})
	fillWith(p.Segments, live(leg("SP", 9, 9), 'S'))
	fillWith(p.Phones, "SPOILT")
	fillWith(p.Remarks, "SPOILT")
	fillWith(p.Seats, api.Place{Segment: 9, Pax: 9, Seat: seat("88S")})
}

func fillWith[T any](l []T, x T) {
	l = l[:cap(l)]
	for i := range l {
		l[i] = x
	}
}

// rows: edits that go and that don't, of each kind, of rich and of unnamed.
func rows() [][]api.Edit {
	bad := []api.Edit{name("", "A"), sell(live(leg("BA", 117, 5), 'C')), phone(" "), ticket(0, 0, 0), received("a"), remark(""), drop(2), give(1, 2, "12A"), give(1, 4, "3A"), free(3, 3), {}}
	out := [][]api.Edit{nil, {}}
	for kind := 1; kind <= 9; kind++ {
		out = append(out, []api.Edit{noisy(kind)}, []api.Edit{noisy(kind), noisy(kind)})
		for other := 1; other <= 9; other++ {
			out = append(out, []api.Edit{noisy(kind), give(1, 2, "3A"), noisy(other), bad[kind], noisy(other)})
		}
	}
	for _, e := range bad {
		out = append(out, []api.Edit{e})
	}
	out = append(out, []api.Edit{drop(1), drop(3), drop(4)}, []api.Edit{give(1, 1, "3A"), give(1, 1, "12A"), free(1, 3), free(1, 1), free(1, 2)})
	return out
}

func handed() []api.Pnr {
	full := rich()
	full.Names, full.Segments, full.Phones, full.Remarks = make([]api.Name, 12), make([]api.Segment, 12), make([]string, 12), make([]string, 12)
	empty := rich()
	empty.Names, empty.Segments, empty.Phones, empty.Remarks, empty.Seats = nil, nil, nil, nil, nil
	return []api.Pnr{rich(), unnamed(), full, empty, {}}
}

// answers: the PNRs that the calls answer for a row of edits, each of them a new one.
func answers(p api.Pnr, edits []api.Edit) []api.Pnr {
	whole, _, _ := Fold(p, edits...)
	out := []api.Pnr{whole}
	for _, e := range edits {
		one, _ := Apply(p, e)
		out = append(out, one)
	}
	return out
}

func TestWhatIsHandedInStaysAsItIs(t *testing.T) {
	for _, x := range handed() {
		for _, row := range rows() {
			p := roomy(x)
			edits := withRoom(row, api.Edit{Kind: 77, Text: "ROOM"})
			was, editsWere := reach(p), append([]api.Edit{}, edits[:cap(edits)]...)
			got := answers(p, edits)
			Live(p)
			Same(p, got[0])
			if !reflect.DeepEqual(reach(p), was) {
				t.Errorf("the PNR has changed by %v", row)
			}
			if !reflect.DeepEqual(edits[:cap(edits)], editsWere) {
				t.Errorf("the edits have changed: %v", row)
			}
			for _, q := range got {
				spoil(q)
			}
			if !reflect.DeepEqual(reach(p), was) {
				t.Errorf("the PNR shares memory with what came of %v", row)
			}
		}
	}
}

func TestAnswersAreMemoryOfTheirOwn(t *testing.T) {
	for _, x := range handed() {
		for _, row := range rows() {
			p := roomy(x)
			edits := append([]api.Edit{}, row...)
			got, want := answers(p, edits), []api.Pnr{}
			for _, q := range got {
				want = append(want, copied(q))
			}
			spoil(p)
			fillWith(edits, api.Edit{Kind: 77, Text: "SPOILT"})
			for i := range got {
				isPnr(t, "an answer, behind a change of what was handed in", got[i], want[i])
				// Each spoils those behind it, if it shares anything with them.
				spoil(got[i])
			}
		}
	}
}

// The lists of one answer, even where those that were handed in share an array.
func TestListsOfOneAnswerAreApart(t *testing.T) {
	both := []string{"A", "B", "C", "D", "E", "F", "G", "H"}
	was := slices.Clone(both)
	p := rich()
	p.Phones, p.Remarks = both[:2], both[1:4]
	for _, row := range [][]api.Edit{{}, {phone("X")}, {remark("X")}, {phone("X"), remark("Y"), phone("Z")}, {drop(1)}} {
		for _, q := range []api.Pnr{behind(t, p, row...), behind(t, behind(t, p, row...))} {
			remarks := slices.Clone(q.Remarks)
			if remarks[0] != "B" || remarks[2] != "D" {
				t.Error("a phone is laid over a remark:", remarks)
			}
			fillWith(q.Phones, "SPOILT")
			if !slices.Equal(q.Remarks, remarks) {
				t.Error("the remarks behind a change of the phones:", q.Remarks)
			}
		}
		if !slices.Equal(both, was) {
			t.Fatal("what was handed in has changed:", both)
		}
	}
}

func TestLiveIsMemoryOfItsOwn(t *testing.T) {
	p := rich()
	one, other := Live(p), Live(p)
	fillWith(one, 77)
	if !reflect.DeepEqual(other, []int{1, 3, 4}) || !reflect.DeepEqual(Live(p), []int{1, 3, 4}) {
		t.Error("live:", other, Live(p))
	}
}

// One call's answer is handed in again and again: each goes its own way.
func TestTwoWaysFromOne(t *testing.T) {
	p := made(t, name("A", "A"), name("A", "B"), name("A", "C"), segment(1), phone("1"), remark("1"), give(1, 2, "1A"))
	var ways []api.Pnr
	for i := range 9 {
		s := string([]byte{byte('A' + i)})
		ways = append(ways, behind(t, p, name("B", s), phone(s), remark(s), segment(2+i), give(1, 1, "2"+s), give(1, 3, "3"+s)))
	}
	for i, q := range ways {
		s := string([]byte{byte('A' + i)})
		if q.Names[3].First != s || q.Phones[1] != s || q.Remarks[1] != s || q.Segments[1].Leg.Key.Number != 2+i {
			t.Errorf("the way %d is %+v", i, q)
		}
		isText(t, "its seats", told(q.Seats), "1.1.2"+s+" 1.2.1A 1.3.3"+s)
	}
	isText(t, "the seats of the one", told(p.Seats), "1.2.1A")
}
