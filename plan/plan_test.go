package plan

import (
	"math"
	"reflect"
	"strconv"
	"strings"
	"testing"

	"jetway/api"
)

// example: the plan of the chapter's examples.
func example() api.Plan {
	return api.Plan{First: 1, Last: 3, Letters: "AB.C", Exits: []int{2}, Blocked: []api.Seat{{Row: 1, Letter: 'B'}}}
}

// largest: 60 rows of 10 letters, with both ends of the rows as exits and a blocked place at both ends of the plan.
func largest() api.Plan {
	return api.Plan{First: 1, Last: 60, Letters: "ABC.DEFG.HJK", Exits: []int{1, 60}, Blocked: []api.Seat{{Row: 1, Letter: 'A'}, {Row: 60, Letter: 'K'}}}
}

// rows: from the first to the last one, with those letters and nothing else.
func rows(first, last int, letters string) api.Plan {
	return api.Plan{First: first, Last: last, Letters: letters}
}

// blocked: the plan with the seats of that text blocked.
func blocked(p api.Plan, text string) api.Plan {
	p.Blocked = list(text)
	return p
}

// list: the seats of texts with blanks between them; a text whose last byte is any byte, and whose row any number.
func list(text string) []api.Seat {
	var out []api.Seat
	for _, s := range strings.Fields(text) {
		out = append(out, seat(s))
	}
	return out
}

// seat doesn't ask Read, as that one is tested here, too.
func seat(s string) api.Seat {
	last := len(s) - 1
	row, err := strconv.Atoi(s[:last])
	if err != nil {
		panic(err)
	}
	return api.Seat{Row: row, Letter: s[last]}
}

func names(seats []api.Seat) string {
	var out []string
	for _, s := range seats {
		out = append(out, strconv.Itoa(s.Row)+string(rune(s.Letter)))
	}
	return strings.Join(out, " ")
}

func mapOf(t *testing.T, p api.Plan) *Map {
	t.Helper()
	m, e := New(p)
	if m == nil || e != api.OK {
		t.Fatalf("New of %v is %v and %v, not a map and OK", p, m, e)
	}
	return m
}

func isRight(t *testing.T, name string, p api.Plan) {
	t.Helper()
	if e := Check(p); e != api.OK {
		t.Errorf("%s: Check of %v is %v, not OK", name, p, e)
	}
	if m, e := New(p); m == nil || e != api.OK {
		t.Errorf("%s: New of %v is %v and %v, not a map and OK", name, p, m, e)
	}
}

func isWrong(t *testing.T, name string, p api.Plan) {
	t.Helper()
	if e := Check(p); e != api.ErrForm {
		t.Errorf("%s: Check of %v is %v, not ErrForm", name, p, e)
	}
	if m, e := New(p); m != nil || e != api.ErrForm {
		t.Errorf("%s: New of %v is %v and %v, not nil and ErrForm", name, p, m, e)
	}
}

// hasBits: Bits of the seats of a text, and Of of these bits, are each other's.
func hasBits(t *testing.T, m *Map, text string, want ...uint64) {
	t.Helper()
	if got, e := m.Bits(list(text)...); e != api.OK || !reflect.DeepEqual(got, want) {
		t.Errorf("Bits of %q are %v and %v, not %v", text, got, e, want)
	}
	if got, e := m.Of(want); e != api.OK || names(got) != text {
		t.Errorf("Of of %v is %q and %v, not %q", want, names(got), e, text)
	}
}

func noBits(t *testing.T, m *Map, want api.Errno, seats ...api.Seat) {
	t.Helper()
	if got, e := m.Bits(seats...); len(got) != 0 || e != want {
		t.Errorf("Bits of %v are %v and %v, not %v", seats, got, e, want)
	}
}

func noSeats(t *testing.T, m *Map, want api.Errno, bits ...uint64) {
	t.Helper()
	if got, e := m.Of(bits); len(got) != 0 || e != want {
		t.Errorf("Of of %v is %v and %v, not %v", bits, got, e, want)
	}
}

// The chapter's examples.

func TestExamples(t *testing.T) {
	m := mapOf(t, example())
	if got, want := names(m.Seats()), "1A 1C 2A 2B 2C 3A 3B 3C"; got != want {
		t.Errorf("Seats are %q, not %q", got, want)
	}
	if got := m.Number(seat("2A")); got != 3 {
		t.Errorf("Number of 2A is %d, not 3", got)
	}
	for s, want := range map[string]string{"1A": "W", "2B": "AE", "2C": "WAE"} {
		if got := m.Marks(seat(s)); got != want {
			t.Errorf("Marks of %s are %q, not %q", s, got, want)
		}
	}
	hasBits(t, m, "1A 2B", 17)
}

// P9.1.

func TestTextAndReadOfSeats(t *testing.T) {
	for row := 1; row <= 99; row++ {
		for letter := byte('A'); letter <= 'Z'; letter++ {
			s := api.Seat{Row: row, Letter: letter}
			want := names([]api.Seat{s})
			if got := Text(s); got != want {
				t.Errorf("Text of %v is %q, not %q", s, got, want)
			}
			if got, ok := Read(want); got != s || !ok {
				t.Errorf("Read of %q is %v and %v, not %v", want, got, ok, s)
			}
		}
	}
	for text, want := range map[string]api.Seat{
		"1A": {Row: 1, Letter: 'A'}, "9A": {Row: 9, Letter: 'A'}, "10A": {Row: 10, Letter: 'A'}, "59K": {Row: 59, Letter: 'K'}, "60K": {Row: 60, Letter: 'K'}, "61K": {Row: 61, Letter: 'K'}, "99Z": {Row: 99, Letter: 'Z'},
	} {
		if got, ok := Read(text); got != want || !ok || Text(want) != text {
			t.Errorf("Read of %q is %v and %v, Text of %v is %q", text, got, ok, want, Text(want))
		}
	}
}

func TestTextOfWhatHasNone(t *testing.T) {
	for _, row := range []int{0, 100, -1, 101, 110, 1000, -99, 1 << 8, 1<<8 + 1, 1<<32 + 1, math.MinInt, math.MaxInt} {
		for _, letter := range []byte("AMZ") {
			if got := Text(api.Seat{Row: row, Letter: letter}); got != "" {
				t.Errorf("Text of row %d, letter %c is %q", row, letter, got)
			}
		}
	}
	for n := range 256 {
		for _, row := range []int{0, 1, 9, 10, 60, 99, 100} {
			right := n >= 'A' && n <= 'Z' && row >= 1 && row <= 99
			if got := Text(api.Seat{Row: row, Letter: byte(n)}); (got != "") != right {
				t.Errorf("Text of row %d, letter %d is %q", row, n, got)
			}
		}
	}
}

func TestReadOfOtherTexts(t *testing.T) {
	for _, s := range []string{
		"", "1", "A", "01A", "1a", "100A", "1A ", "+1A", "0A", "00A", "001A", "-1A", "1 A", " 1A", "1_A", "1.A", "12", "99", "123", "A1", "AA", "AAA", "1AA", "A1A", "1AB2",
		"1@", "1[", "1É", "É", "1\x00", "\x001A", "1A\x00", "1A\n", "/;A", ":A", "/A", "1:A", "1/A", ":0A", "1/2A", "0x1A", "1e1A", "١A", "１A", "10a", "99z", "999A", "1000A", "1Ａ", "1A1A",
		"4294967297A", "18446744073709551617A", "1" + strings.Repeat("0", 5000) + "A", strings.Repeat("0", 5000) + "1A", "1" + strings.Repeat("A", 5000),
	} {
		if got, ok := Read(s); ok || got != (api.Seat{}) {
			t.Errorf("Read of %q is %v and %v", s, got, ok)
		}
	}
}

// TestReadOfShortTexts goes through all texts of one and two bytes, and those of three whose last byte is one of some that stand at the edges of digits and letters.
func TestReadOfShortTexts(t *testing.T) {
	texts := map[string]api.Seat{}
	for row := 1; row <= 99; row++ {
		for letter := byte('A'); letter <= 'Z'; letter++ {
			s := api.Seat{Row: row, Letter: letter}
			texts[names([]api.Seat{s})] = s
		}
	}
	some := "\x00 +-./0123456789:;?@AEFZ[_`az{\x7f\x80\xb1\xff"
	ask := func(s string) {
		want, right := texts[s]
		if got, ok := Read(s); got != want || ok != right {
			t.Errorf("Read of %q is %v and %v, not %v and %v", s, got, ok, want, right)
		}
	}
	for a := range 256 {
		ask(string([]byte{byte(a)}))
		for b := range 256 {
			ask(string([]byte{byte(a), byte(b)}))
			for c := range len(some) {
				ask(string([]byte{byte(a), byte(b), some[c]}))
			}
		}
	}
}

// P9.2: which plans are right.

func TestRows(t *testing.T) {
	for _, x := range [][2]int{{1, 1}, {1, 2}, {1, 60}, {60, 60}, {59, 60}, {1, 59}, {30, 30}, {10, 20}} {
		isRight(t, "rows", rows(x[0], x[1], "AB.C"))
	}
	for _, x := range [][2]int{
		{0, 0}, {0, 1}, {0, 60}, {-1, 1}, {1, 0}, {2, 1}, {60, 59}, {1, 61}, {61, 61}, {60, 61}, {61, 60}, {1, 100}, {-5, -1}, {1, -1}, {1<<32 + 1, 1<<32 + 1}, {1, 1<<32 + 1},
		{math.MinInt, 1}, {1, math.MaxInt}, {1, math.MinInt}, {math.MaxInt, 1}, {math.MinInt, math.MaxInt}, {math.MinInt, math.MinInt}, {math.MaxInt, math.MaxInt},
	} {
		isWrong(t, "rows", rows(x[0], x[1], "AB.C"))
	}
	isWrong(t, "the zero plan", api.Plan{})
}

func TestLetters(t *testing.T) {
	for _, s := range []string{"A", "Z", "M", "AZ", "A.Z", "YZ", "ABCDEFGHIJ", "QRSTUVWXYZ", "A.B.C.D.E.F.G.H.I.J", "ABC.DEF", "AC.DF", "ABC.DEFG.HJK", "A.B", "AB.C"} {
		isRight(t, "letters", rows(1, 2, s))
	}
	for _, s := range []string{
		"", ".", "..", ".A", "A.", ".A.", ".AB", "AB.", "..A", "A..", "A..B", "A...B", "A.B..C", "A.B.", ".A.B", "A.B.C..",
		"BA", "AA", "A.A", "B.A", "ABB", "ACB", "BAC", "AB.B", "AB.A", "A.CB", "ZA",
		"a", "Aa", "aA", "A1", "1", "1A", "A B", " A", "A ", "A,B", "A-B", "@", "@A", "A[", "[", "A.[", "@.A", "\x00", "\x00A", "A\x00", "AÉ", "É", "\xff", "A\xff", "A/B", "A\nB",
		"ABCDEFGHIJK", "A.B.C.D.E.F.G.H.I.J.K", "PQRSTUVWXYZ", "ABCDEFGHIJKLMNOPQRSTUVWXYZ", "ABCDEFGHIJ.", ".ABCDEFGHIJ", strings.Repeat("A", 256+1), strings.Repeat("A.", 5000) + "A",
	} {
		isWrong(t, "letters", rows(1, 2, s))
	}
	for n := range 256 {
		p := rows(1, 2, string([]byte{byte(n)}))
		if got, want := Check(p) == api.OK, n >= 'A' && n <= 'Z'; got != want {
			t.Errorf("Check with the letter %d is right: %v", n, got)
		}
	}
}

func TestExits(t *testing.T) {
	every := []int{}
	for row := 10; row <= 20; row++ {
		every = append(every, row)
	}
	for _, exits := range [][]int{nil, {}, {10}, {20}, {15}, {10, 20}, {10, 11}, {19, 20}, {10, 11, 12, 20}, every} {
		p := rows(10, 20, "AB.C")
		p.Exits = exits
		isRight(t, "exits", p)
	}
	for _, exits := range [][]int{
		{9}, {21}, {0}, {-1}, {-10}, {10, 10}, {20, 20}, {11, 10}, {20, 10}, {10, 12, 11}, {10, 12, 12}, {12, 12, 13}, {10, 20, 15}, {9, 10}, {20, 21}, {10, 21}, {10, 15, 21}, {9, 15, 20},
		{1<<32 + 10}, {math.MinInt}, {math.MaxInt}, {10, math.MaxInt}, append([]int{9}, every...), append(append([]int{}, every...), 20), make([]int, 1000),
	} {
		p := rows(10, 20, "AB.C")
		p.Exits = exits
		isWrong(t, "exits", p)
	}
}

func TestBlocked(t *testing.T) {
	p := rows(2, 4, "AC.D")
	for _, text := range []string{"", "2A", "4D", "2A 2C", "2A 4D", "2D 3A", "2A 3A 4A", "2D 3C 4A", "2A 2C 2D 3A 3C 3D 4A 4C 4D"} {
		isRight(t, "blocked "+text, blocked(p, text))
	}
	for _, text := range []string{
		"1A", "5A", "0A", "-1A", "-2A", "2B", "2E", "2Z", "2@", "2[", "2.", "3.", "2a", "2\x00", "2\xff",
		"2A 2A", "4D 4D", "2C 2A", "3A 2A", "3A 2D", "4D 2A", "2A 3C 3A", "2A 3A 3A", "3A 3A 4A", "2A 4A 3D",
		"1D 2A", "4D 5A", "2A 5D", "2A 2B 2C", "2A 2. 2D", "2. 2A", "2A 3B", "4294967298A",
	} {
		isWrong(t, "blocked "+text, blocked(p, text))
	}
	for _, row := range []int{math.MinInt, math.MaxInt} {
		q := p
		q.Blocked = []api.Seat{{Row: row, Letter: 'A'}}
		isWrong(t, "blocked in no row", q)
	}
	q := p
	q.Blocked = make([]api.Seat, 1)
	isWrong(t, "the zero seat blocked", q)
}

// places: the first n places of a plan without points.
func places(p api.Plan, n int) []api.Seat {
	var out []api.Seat
	for i := range n {
		out = append(out, api.Seat{Row: p.First + i/len(p.Letters), Letter: p.Letters[i%len(p.Letters)]})
	}
	return out
}

func TestHowManyBlocked(t *testing.T) {
	p := rows(1, 60, "ABCDEFGHIJ")
	for _, n := range []int{1, 39, 40} {
		p.Blocked = places(p, n)
		isRight(t, "how many blocked", p)
		if got := len(mapOf(t, p).Seats()); got != 600-n {
			t.Errorf("of %d blocked places %d seats are left", n, got)
		}
	}
	for _, n := range []int{41, 42, 80, 256, 257, 600} {
		p.Blocked = places(p, n)
		isWrong(t, "how many blocked", p)
	}
}

func TestWrongInTwoWays(t *testing.T) {
	p := api.Plan{First: 5, Last: 4, Letters: ".", Exits: []int{9, 1}, Blocked: make([]api.Seat, 41)}
	isWrong(t, "all wrong", p)
	isWrong(t, "no letters, but a blocked place", blocked(rows(1, 1, ""), "1A"))
	isWrong(t, "a point, blocked", blocked(rows(1, 1, "."), "1."))
}

// P9.2: what a map tells.

// told: each place of a map with its number, whether it is a seat, and its marks.
func told(m *Map, seats string) string {
	var out []string
	for _, s := range list(seats) {
		text := names([]api.Seat{s}) + ":" + strconv.Itoa(m.Number(s))
		if m.Has(s) {
			text += "+"
		}
		out = append(out, text+m.Marks(s))
	}
	return strings.Join(out, " ")
}

func isTold(t *testing.T, p api.Plan, want string) {
	t.Helper()
	m := mapOf(t, p)
	var asked []string
	for _, s := range strings.Fields(want) {
		asked = append(asked, s[:strings.Index(s, ":")])
	}
	if got := told(m, strings.Join(asked, " ")); got != want {
		t.Errorf("of %v:\n%s, not\n%s", p, got, want)
	}
}

func TestNumbersAndMarks(t *testing.T) {
	isTold(t, example(), "1A:0+W 1B:1 1C:2+WA 2A:3+WE 2B:4+AE 2C:5+WAE 3A:6+W 3B:7+A 3C:8+WA 4A:-1 0A:-1")
	// One letter is the first and the last one; one place is a row and a plan.
	isTold(t, rows(1, 1, "A"), "1A:0+W 1B:-1 2A:-1")
	isTold(t, rows(60, 60, "Z"), "60Z:0+W 60Y:-1 59Z:-1 61Z:-1")
	// A point on the left, on the right, on both sides; a letter with nothing beside it.
	isTold(t, rows(7, 8, "A.C.DEF.G"), "7A:0+WA 7C:1+A 7D:2+A 7E:3+ 7F:4+A 7G:5+WA 8A:6+WA 8C:7+A 8D:8+A 8E:9+ 8F:10+A 8G:11+WA 7B:-1 7.:-1 8.:-1 6A:-1 9A:-1")
	isTold(t, rows(1, 1, "A.B"), "1A:0+WA 1B:1+WA")
	isTold(t, rows(1, 1, "ABC"), "1A:0+W 1B:1+ 1C:2+W")
	isTold(t, rows(1, 1, "BC"), "1B:0+W 1C:1+W 1A:-1 1D:-1")
	// Points count no places, blocked places count.
	isTold(t, blocked(rows(9, 11, "A.B.C"), "9A 9B 9C 10B"), "9A:0 9B:1 9C:2 10A:3+WA 10B:4 10C:5+WA 11A:6+WA 11B:7+A 11C:8+WA")
	// A blocked place leaves the marks of those beside it as they are.
	isTold(t, blocked(rows(1, 1, "ABC.D"), "1A 1D"), "1A:0 1B:1+ 1C:2+A 1D:3")
	isTold(t, largest(), "1A:0 1B:1+E 1C:2+AE 1D:3+AE 1E:4+E 1G:6+AE 1H:7+AE 1K:9+WE 1I:-1 2A:10+W 6D:53+A 30E:294+ 60A:590+WE 60J:598+E 60K:599 61A:-1")
}

func TestExitRows(t *testing.T) {
	p := rows(3, 6, "AB")
	for _, exits := range [][]int{nil, {3}, {6}, {4, 5}, {3, 4, 5, 6}} {
		p.Exits = exits
		m := mapOf(t, p)
		for row := 3; row <= 6; row++ {
			want := "W"
			for _, exit := range exits {
				if exit == row {
					want = "WE"
				}
			}
			if got := m.Marks(api.Seat{Row: row, Letter: 'B'}); got != want {
				t.Errorf("Exits %v: Marks of %dB are %q, not %q", exits, row, got, want)
			}
		}
	}
}

func TestWhatIsNoPlace(t *testing.T) {
	m := mapOf(t, example())
	seats := []api.Seat{{}, {Row: 1}, {Letter: 'A'}, {Row: 1, Letter: '.'}, {Row: 2, Letter: '.'}, {Row: 1, Letter: 'a'}, {Row: 1, Letter: 'D'}, {Row: 1, Letter: '@'}, {Row: 1, Letter: 255}}
	for _, row := range []int{0, 4, -1, -2, 60, 100, 1 << 8, 1<<8 + 1, 1<<32 + 1, math.MinInt, math.MaxInt} {
		seats = append(seats, api.Seat{Row: row, Letter: 'A'}, api.Seat{Row: row, Letter: 'C'})
	}
	for _, s := range seats {
		if m.Has(s) || m.Number(s) != -1 || m.Marks(s) != "" {
			t.Errorf("of %v, which is no place: Has %v, Number %d, Marks %q", s, m.Has(s), m.Number(s), m.Marks(s))
		}
		noBits(t, m, api.ErrSeat, s)
		noBits(t, m, api.ErrSeat, seat("1A"), s)
		noBits(t, m, api.ErrSeat, s, s)
	}
}

func TestBlockedPlaces(t *testing.T) {
	m := mapOf(t, example())
	s := seat("1B")
	if m.Has(s) || m.Number(s) != 1 || m.Marks(s) != "" {
		t.Errorf("of a blocked place: Has %v, Number %d, Marks %q", m.Has(s), m.Number(s), m.Marks(s))
	}
	noBits(t, m, api.ErrSeat, s)
	noBits(t, m, api.ErrSeat, seat("1A"), s)
	noBits(t, m, api.ErrSeat, s, seat("1A"))
}

func TestAllBlocked(t *testing.T) {
	p := rows(1, 4, "ABCDEFGHIJ")
	p.Blocked = places(p, 40)
	m := mapOf(t, p)
	if got := m.Seats(); len(got) != 0 {
		t.Errorf("Seats of a plan that is all blocked are %v", got)
	}
	for i, s := range p.Blocked {
		if m.Has(s) || m.Number(s) != i || m.Marks(s) != "" {
			t.Errorf("of %v: Has %v, Number %d, Marks %q", s, m.Has(s), m.Number(s), m.Marks(s))
		}
		noBits(t, m, api.ErrSeat, s)
		noSeats(t, m, api.ErrSeat, 1<<i)
	}
	hasBits(t, m, "", 0)
	one := mapOf(t, blocked(rows(1, 1, "A"), "1A"))
	if got := one.Seats(); len(got) != 0 || one.Number(seat("1A")) != 0 {
		t.Errorf("Seats of one blocked place are %v", got)
	}
	hasBits(t, one, "", 0)
	noSeats(t, one, api.ErrSeat, 1)
}

// P9.3.

func TestBitsOfNoSeats(t *testing.T) {
	hasBits(t, mapOf(t, example()), "", 0)
	hasBits(t, mapOf(t, rows(1, 1, "A")), "", 0)
	hasBits(t, mapOf(t, largest()), "", make([]uint64, 10)...)
	if got, e := mapOf(t, example()).Bits([]api.Seat{}...); e != api.OK || !reflect.DeepEqual(got, []uint64{0}) {
		t.Errorf("Bits of an empty list are %v and %v", got, e)
	}
}

func TestHowManyNumbers(t *testing.T) {
	// Of one letter there are as many places as rows.
	for _, x := range []struct {
		p    api.Plan
		want int
	}{
		{rows(1, 1, "A"), 1}, {rows(60, 60, "A"), 1}, {rows(1, 60, "A"), 1}, {rows(1, 9, "ABCDEFG"), 1}, {rows(1, 8, "ABCDEFGH"), 1}, {rows(53, 60, "ABCD.EFGH"), 1}, {rows(1, 13, "ABCDE"), 2},
		{rows(1, 16, "ABCDEFGH"), 2}, {rows(1, 43, "ABC"), 3}, {rows(1, 60, "ABCDEFGHI"), 9}, {rows(1, 32, "ABCDEFGHIJ"), 5}, {rows(1, 33, "ABCDEFGHIJ"), 6}, {rows(1, 60, "ABCDEFGHIJ"), 10},
	} {
		m := mapOf(t, x.p)
		if got, e := m.Bits(); e != api.OK || len(got) != x.want {
			t.Errorf("of %v Bits are %v and %v, not %d numbers", x.p, got, e, x.want)
		}
		for n := range 14 {
			want := api.ErrSize
			if n == x.want {
				want = api.OK
			}
			noSeats(t, m, want, make([]uint64, n)...)
		}
	}
}

func TestEdgesOfNumbers(t *testing.T) {
	// Places 63 and 64 are the last bit of a number and the first of the next one.
	m := mapOf(t, rows(1, 60, "ABCDEFGHIJ"))
	if m.Number(seat("7D")) != 63 || m.Number(seat("7E")) != 64 {
		t.Fatal("7D and 7E", m.Number(seat("7D")), m.Number(seat("7E")))
	}
	hasBits(t, m, "7D", 1<<63, 0, 0, 0, 0, 0, 0, 0, 0, 0)
	hasBits(t, m, "7E", 0, 1, 0, 0, 0, 0, 0, 0, 0, 0)
	hasBits(t, m, "7D 7E", 1<<63, 1, 0, 0, 0, 0, 0, 0, 0, 0)
	hasBits(t, m, "1A", 1, 0, 0, 0, 0, 0, 0, 0, 0, 0)
	hasBits(t, m, "60J", 0, 0, 0, 0, 0, 0, 0, 0, 0, 1<<23)
	hasBits(t, m, "1A 7D 7E 60I 60J", 1|1<<63, 1, 0, 0, 0, 0, 0, 0, 0, 3<<22)
	noSeats(t, m, api.ErrSeat, 0, 0, 0, 0, 0, 0, 0, 0, 0, 1<<24)
	noSeats(t, m, api.ErrSeat, 0, 0, 0, 0, 0, 0, 0, 0, 0, 1<<63)
	// Just 64 places: there is no bit of what is no place, and no second number.
	full := mapOf(t, rows(1, 8, "ABCD.EFGH"))
	hasBits(t, full, "8H", 1<<63)
	hasBits(t, full, names(full.Seats()), math.MaxUint64)
	noSeats(t, full, api.ErrSize, 0, 1)
	noSeats(t, full, api.ErrSize, 0, 0)
	// 65 places: the second number has one bit.
	more := mapOf(t, rows(1, 13, "ABCDE"))
	hasBits(t, more, "13E", 0, 1)
	hasBits(t, more, names(more.Seats()), math.MaxUint64, 1)
	noSeats(t, more, api.ErrSeat, 0, 2)
	noSeats(t, more, api.ErrSize, 1)
	noSeats(t, more, api.ErrSize, 1, 1, 0)
}

func TestBitsInAnyOrder(t *testing.T) {
	m := mapOf(t, example())
	for _, text := range []string{"1A 2B 3C", "3C 2B 1A", "2B 3C 1A"} {
		if got, e := m.Bits(list(text)...); e != api.OK || !reflect.DeepEqual(got, []uint64{1 | 1<<4 | 1<<8}) {
			t.Errorf("Bits of %q are %v and %v", text, got, e)
		}
	}
}

func TestErrorsOfBits(t *testing.T) {
	m := mapOf(t, example())
	for text, want := range map[string]api.Errno{
		"1A 1A": api.ErrTwice, "3C 1A 3C": api.ErrTwice, "1A 2A 2A": api.ErrTwice, "2A 2A 1A": api.ErrTwice, "1A 1A 1A": api.ErrTwice,
		"1B": api.ErrSeat, "4A": api.ErrSeat, "1A 1D": api.ErrSeat, "0A 1A": api.ErrSeat, "1A 1.": api.ErrSeat, "1B 1B": api.ErrSeat, "4A 4A": api.ErrSeat,
		"1A 1A 1B": api.ErrSeat, "1B 1A 1A": api.ErrSeat, "1A 1B 1A": api.ErrSeat, "1A 1A 9Z": api.ErrSeat,
	} {
		noBits(t, m, want, list(text)...)
	}
	// All seats, and one of them once more at the far end of the list.
	large := mapOf(t, rows(1, 60, "ABCDEFGHIJ"))
	for _, s := range []string{"1A", "7D", "7E", "60J"} {
		noBits(t, large, api.ErrTwice, append(large.Seats(), seat(s))...)
	}
	noBits(t, large, api.ErrSeat, append(append(large.Seats(), large.Seats()...), seat("60K"))...)
}

func TestErrorsOfOf(t *testing.T) {
	m := mapOf(t, example())
	for _, bits := range [][]uint64{nil, {}, {0, 0}, {1, 0}, {2, 0}, {0, 2}, {512, 512}, make([]uint64, 1000)} {
		noSeats(t, m, api.ErrSize, bits...)
	}
	// 1B is blocked, and the last place is the number 8.
	noSeats(t, m, api.ErrSeat, 1<<1)
	noSeats(t, m, api.ErrSeat, 1|1<<1)
	noSeats(t, m, api.ErrSeat, 1<<1|1<<8)
	for n := 9; n < 64; n++ {
		noSeats(t, m, api.ErrSeat, 1<<n)
		noSeats(t, m, api.ErrSeat, 1|1<<n)
	}
	noSeats(t, m, api.ErrSeat, math.MaxUint64)
	// In the largest plan the first and the last place are blocked.
	large := mapOf(t, largest())
	noSeats(t, large, api.ErrSeat, 1, 0, 0, 0, 0, 0, 0, 0, 0, 0)
	noSeats(t, large, api.ErrSeat, 0, 0, 0, 0, 0, 0, 0, 0, 0, 1<<23)
	noSeats(t, large, api.ErrSeat, 2, 0, 0, 0, 0, 0, 0, 0, 0, 1<<24)
	hasBits(t, large, "1B 60J", 2, 0, 0, 0, 0, 0, 0, 0, 0, 1<<22)
}
