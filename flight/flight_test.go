package flight

import (
	"math"
	"math/rand"
	"reflect"
	"strings"
	"testing"

	"jetway/api"
)

// one: a flight that is right and flies every day.
func one(carrier string, number int, from, to string, depart, arrive int) api.Flight {
	return api.Flight{
		Key: api.Key{Carrier: carrier, Number: number}, From: from, To: to, Days: 127, Depart: depart, Arrive: arrive,
		Classes: []api.Class{{Letter: 'C', Level: 4}, {Letter: 'Y', Level: 9}},
	}
}

func onDays(f api.Flight, days uint8) api.Flight {
	f.Days = days
	return f
}

// classes: of rising letters from A on, with a level of 1.
func classes(n int) []api.Class {
	var out []api.Class
	for i := range n {
		out = append(out, api.Class{Letter: byte('A' + i), Level: 1})
	}
	return out
}

func lettered(letters string) []api.Class {
	var out []api.Class
	for i := range len(letters) {
		out = append(out, api.Class{Letter: letters[i], Level: 1})
	}
	return out
}

func table(t *testing.T, flights ...api.Flight) *Table {
	t.Helper()
	x, e := New(flights...)
	if x == nil || e != api.OK {
		t.Fatalf("New is %v and %v, not a table and OK", x, e)
	}
	return x
}

func refused(t *testing.T, want api.Errno, flights ...api.Flight) {
	t.Helper()
	if x, e := New(flights...); x != nil || e != want {
		t.Errorf("New of %d flights is %v and %v, not nil and %v", len(flights), x, e, want)
	}
}

func names(flights []api.Flight) string {
	var out []string
	for _, f := range flights {
		out = append(out, Text(f.Key))
	}
	return strings.Join(out, " ")
}

func linkNames(links [][2]api.Flight) string {
	var out []string
	for _, l := range links {
		out = append(out, Text(l[0].Key)+"+"+Text(l[1].Key))
	}
	return strings.Join(out, " ")
}

func isText(t *testing.T, what, got, want string) {
	t.Helper()
	if got != want {
		t.Errorf("%s: %q, not %q", what, got, want)
	}
}

// turn: a change of a right flight, and whether it is right behind it.
type turn struct {
	name  string
	right bool
	do    func(f *api.Flight)
}

func turns() []turn {
	out := []turn{
		{"as it is", true, func(f *api.Flight) {}},
		{"From and To alike", false, func(f *api.Flight) { f.To = f.From }},
		{"From and To alike and no city", false, func(f *api.Flight) { f.From, f.To = "", "" }},
		{"Depart and Arrive alike", true, func(f *api.Flight) { f.Depart, f.Arrive = 600, 600 }},
		{"Arrive below Depart", true, func(f *api.Flight) { f.Depart, f.Arrive = 600, 599 }},
		{"all at their least", true, func(f *api.Flight) {
			f.Key.Number, f.Days, f.Depart, f.Arrive, f.Plan = 1, 1, 0, 0, 0
			f.Classes = []api.Class{{Letter: 'A', Level: 0}}
		}},
		{"all at their most", true, func(f *api.Flight) {
			f.Key.Number, f.Days, f.Depart, f.Arrive, f.Plan = 9999, 127, 1439, 1439, 7
			f.Classes = lettered("UVWXYZ")
			for i := range f.Classes {
				f.Classes[i].Level = 400
			}
		}},
	}
	texts := func(name string, right bool, set func(f *api.Flight, s string), list ...string) {
		for _, s := range list {
			out = append(out, turn{name + " " + s, right, func(f *api.Flight) { set(f, s) }})
		}
	}
	setCarrier := func(f *api.Flight, s string) { f.Key.Carrier = s }
	texts("Carrier", true, setCarrier, "BA", "7U", "U2", "A0", "9Z")
	texts("Carrier", false, setCarrier, "", "B", "77", "BAA", "ba", "B ", "B-", "É")
	for _, set := range []func(f *api.Flight, s string){
		func(f *api.Flight, s string) { f.From = s },
		func(f *api.Flight, s string) { f.To = s },
	} {
		texts("From or To", true, set, "AAA", "ZZZ", "PAR")
		texts("From or To", false, set, "", "LO", "LOND", "lon", "L0N", "LO ", "ÉN")
	}
	number := func(name string, set func(f *api.Flight, n int), right []int, wrong []int) {
		for _, n := range right {
			out = append(out, turn{name, true, func(f *api.Flight) { set(f, n) }})
		}
		for _, n := range wrong {
			out = append(out, turn{name, false, func(f *api.Flight) { set(f, n) }})
		}
	}
	number("Number", func(f *api.Flight, n int) { f.Key.Number = n }, []int{1, 2, 9998, 9999}, []int{0, -1, 10000, 1<<32 + 1, math.MinInt, math.MaxInt})
	number("Days", func(f *api.Flight, n int) { f.Days = uint8(n) }, []int{1, 2, 64, 65, 126, 127}, []int{0, 128, 129, 255})
	minutes, noMinutes := []int{0, 1, 1438, 1439}, []int{-1, 1440, 1<<32 + 1, math.MinInt, math.MaxInt}
	number("Depart", func(f *api.Flight, n int) { f.Depart = n }, minutes, noMinutes)
	number("Arrive", func(f *api.Flight, n int) { f.Arrive = n }, minutes, noMinutes)
	number("Plan", func(f *api.Flight, n int) { f.Plan = n }, []int{0, 1, 6, 7}, []int{-1, 8, 1 << 32, math.MinInt, math.MaxInt})
	number("how many classes", func(f *api.Flight, n int) { f.Classes = classes(n) }, []int{1, 2, 5, 6}, []int{0, 7, 26})
	for place := range 3 {
		number("Level", func(f *api.Flight, n int) {
			f.Classes = classes(3)
			f.Classes[place].Level = n
		}, []int{0, 1, 399, 400}, []int{-1, 401, 1 << 32, math.MinInt, math.MaxInt})
	}
	setLetters := func(f *api.Flight, s string) { f.Classes = lettered(s) }
	texts("letters", true, setLetters, "A", "Z", "AZ", "YZ", "ABC", "CFY", "ABCDEF")
	texts("letters", false, setLetters, "a", "0", "@", "[", "\x00", "\xff", "1A", "Aa", "A[", "@A", "A1C", "AA", "YY", "BA", "ABB", "ACB", "AAB", "BAC", "ABCDEE", "ABCDFE", "BACDEF")
	out = append(out, turn{"an empty list of classes", false, func(f *api.Flight) { f.Classes = []api.Class{} }})
	return out
}

// P8.1.

func TestCheckOfEachField(t *testing.T) {
	for _, x := range turns() {
		f := one("BA", 117, "LON", "NYC", 600, 100)
		x.do(&f)
		want := api.ErrForm
		if x.right {
			want = api.OK
		}
		if e := Check(f); e != want {
			t.Errorf("Check, %q, of %v: %v, not %v", x.name, f, e, want)
		}
	}
	if e := Check(api.Flight{}); e != api.ErrForm {
		t.Error("Check of the zero flight:", e)
	}
}

func TestCheckOfEveryLetterAndEveryDays(t *testing.T) {
	for n := range 256 {
		f := one("BA", 117, "LON", "NYC", 600, 100)
		f.Classes = []api.Class{{Letter: byte(n), Level: 1}}
		if got, want := Check(f) == api.OK, n >= 'A' && n <= 'Z'; got != want {
			t.Errorf("Check with the class %d is right: %v", n, got)
		}
		f = onDays(one("BA", 117, "LON", "NYC", 600, 100), uint8(n))
		if got, want := Check(f) == api.OK, n > 0 && n < 128; got != want {
			t.Errorf("Check with Days %d is right: %v", n, got)
		}
	}
}

func TestText(t *testing.T) {
	for _, x := range []struct {
		carrier string
		number  int
		want    string
	}{
		{"BA", 117, "BA117"}, {"BA", 1, "BA1"}, {"BA", 9, "BA9"}, {"BA", 10, "BA10"}, {"U2", 9999, "U29999"}, {"7U", 1000, "7U1000"},
		{"BA", 10000, "BA10000"}, {"BA", 123456789, "BA123456789"}, {"BA", 1 << 32, "BA4294967296"}, {"BA", math.MaxInt, "BA9223372036854775807"},
		{"BA", 0, "BA"}, {"BA", -1, "BA"}, {"BA", -117, "BA"}, {"BA", math.MinInt, "BA"},
		{"", 117, "117"}, {"", 0, ""}, {"X", 0, "X"}, {"a text", 5, "a text5"}, {"\xff\x00", 5, "\xff\x005"},
	} {
		isText(t, "Text", Text(api.Key{Carrier: x.carrier, Number: x.number}), x.want)
	}
}

// P8.2.

func TestNewOfEachField(t *testing.T) {
	good := one("AA", 1, "LON", "PAR", 1, 2)
	other := one("ZZ", 1, "LON", "PAR", 1, 2)
	for _, x := range turns() {
		f := one("BA", 117, "LON", "NYC", 600, 100)
		x.do(&f)
		for _, list := range [][]api.Flight{{f}, {f, good, other}, {good, f, other}, {good, other, f}} {
			if !x.right {
				refused(t, api.ErrForm, list...)
				continue
			}
			found, ok := table(t, list...).Find(f.Key)
			if !ok || !reflect.DeepEqual(found, f) {
				t.Errorf("%q: Find is %v and %v, not %v", x.name, found, ok, f)
			}
		}
	}
}

// many: right flights of unlike keys.
func many(n int) []api.Flight {
	var out []api.Flight
	for i := range n {
		out = append(out, one("BA", i+1, "LON", "PAR", 540, 600))
	}
	return out
}

func TestHowManyFlights(t *testing.T) {
	for _, n := range []int{0, 1, 2, 63, 64} {
		if got := len(table(t, many(n)...).All()); got != n {
			t.Errorf("All of %d flights are %d", n, got)
		}
	}
	for _, n := range []int{65, 66, 128, 257, 1000} {
		refused(t, api.ErrSize, many(n)...)
	}
	refused(t, api.ErrSize, make([]api.Flight, 65)...)
	table(t, []api.Flight{}...)
}

func TestOrderOfErrors(t *testing.T) {
	wrong := one("BA", 117, "LON", "LON", 600, 700)
	twice := []api.Flight{one("BA", 1, "LON", "PAR", 1, 2), one("BA", 1, "LON", "PAR", 1, 2)}
	all := append(append(many(65), twice...), wrong)
	refused(t, api.ErrSize, all...)
	refused(t, api.ErrSize, append(many(65), wrong)...)
	refused(t, api.ErrSize, append(many(63), twice...)...)
	refused(t, api.ErrForm, append([]api.Flight{wrong}, twice...)...)
	refused(t, api.ErrForm, twice[0], wrong, twice[1])
	refused(t, api.ErrForm, append(twice, wrong)...)
	// Two of one key, of which one isn't right: it isn't the key that is told.
	unlike := twice[0]
	unlike.Plan = 8
	refused(t, api.ErrForm, twice[0], unlike)
	refused(t, api.ErrForm, unlike, twice[0])
	refused(t, api.ErrForm, append(many(63), wrong)...)
	refused(t, api.ErrTwice, append(many(62), one("U2", 1, "LON", "PAR", 1, 2), one("U2", 1, "LON", "PAR", 1, 2))...)
}

func TestTwoOfOneKey(t *testing.T) {
	a, b, c := one("BA", 1, "LON", "PAR", 1, 2), one("BA", 1, "PAR", "ROM", 700, 800), one("U2", 1, "LON", "PAR", 1, 2)
	b = onDays(b, 2)
	refused(t, api.ErrTwice, a, a)
	refused(t, api.ErrTwice, a, b)
	refused(t, api.ErrTwice, b, a)
	refused(t, api.ErrTwice, a, c, b)
	refused(t, api.ErrTwice, a, b, c)
	refused(t, api.ErrTwice, c, a, b)
	refused(t, api.ErrTwice, a, a, a)
	// Of unlike keys all else may be alike, one text of the key too.
	table(t, a, c, one("BA", 11, "LON", "PAR", 1, 2), one("B1", 1, "LON", "PAR", 1, 2), one("B1", 11, "LON", "PAR", 1, 2))
}

func TestFind(t *testing.T) {
	a, b := one("BA", 117, "LON", "NYC", 600, 100), one("U2", 9999, "PAR", "ROM", 0, 1439)
	b.Plan, b.Days, b.Classes = 7, 1, classes(6)
	x := table(t, b, a)
	for _, want := range []api.Flight{a, b} {
		if got, ok := x.Find(want.Key); !ok || !reflect.DeepEqual(got, want) {
			t.Errorf("Find of %v is %v and %v", want.Key, got, ok)
		}
	}
	for _, k := range []api.Key{
		{}, {Carrier: "BA"}, {Number: 117}, {Carrier: "BA", Number: 118}, {Carrier: "BA", Number: 116}, {Carrier: "BA", Number: -117}, {Carrier: "BA", Number: 9999}, {Carrier: "U2", Number: 117},
		{Carrier: "ba", Number: 117}, {Carrier: "BA ", Number: 117}, {Carrier: "B", Number: 117}, {Carrier: "BA1", Number: 17}, {Carrier: "BA", Number: 1<<32 + 117}, {Carrier: "BA", Number: math.MinInt},
	} {
		if got, ok := x.Find(k); ok || !reflect.DeepEqual(got, api.Flight{}) {
			t.Errorf("Find of %v is %v and %v", k, got, ok)
		}
	}
	if got, ok := table(t).Find(a.Key); ok || !reflect.DeepEqual(got, api.Flight{}) {
		t.Errorf("Find in a table of nothing is %v and %v", got, ok)
	}
}

func TestAllInOrder(t *testing.T) {
	// By the carriers, in which digits stand ahead of letters; by numbers, not by their digits.
	want := []api.Flight{
		one("0A", 9999, "LON", "PAR", 900, 901), one("7U", 8, "PAR", "LON", 800, 801), one("7U", 9, "PAR", "LON", 700, 701), one("A9", 1, "ROM", "LON", 600, 601),
		one("AA", 2, "LON", "PAR", 500, 501), one("BA", 3, "LON", "PAR", 400, 401), one("BA", 10, "AAA", "PAR", 300, 301), one("BA", 20, "LON", "PAR", 200, 201),
		one("BA", 100, "LON", "PAR", 100, 101), one("BA", 9999, "LON", "PAR", 50, 51), one("BB", 1, "LON", "PAR", 40, 41), one("U2", 1, "LON", "PAR", 30, 31), one("ZZ", 1, "LON", "PAR", 20, 21),
	}
	draw := rand.New(rand.NewSource(8))
	for range 200 {
		mixed := append([]api.Flight{}, want...)
		draw.Shuffle(len(mixed), func(i, j int) { mixed[i], mixed[j] = mixed[j], mixed[i] })
		if got := table(t, mixed...).All(); !reflect.DeepEqual(got, want) {
			t.Fatalf("All of %q are %q", names(mixed), names(got))
		}
	}
	if got := table(t).All(); len(got) != 0 {
		t.Error("All of a table of nothing are", names(got))
	}
}

func TestFliesExample(t *testing.T) {
	x := table(t, onDays(one("BA", 117, "LON", "NYC", 600, 100), 65))
	for day, want := range []bool{true, false, false, false, false, false, true, true, false} {
		if got := x.Flies(api.Leg{Key: api.Key{Carrier: "BA", Number: 117}, Day: day}); got != want {
			t.Errorf("BA117 flies on the day %d: %v", day, got)
		}
	}
}

// bits: which of the weekdays from 1 on a flight flies, told without a shift.
func bits(days uint8) [8]bool {
	var out [8]bool
	left := int(days)
	for weekday := 7; weekday >= 1; weekday-- {
		worth := []int{0, 1, 2, 4, 8, 16, 32, 64}[weekday]
		if left >= worth {
			out[weekday] = true
			left -= worth
		}
	}
	return out
}

func TestFliesAndLevelOnEveryDay(t *testing.T) {
	for days := 1; days <= 127; days++ {
		f := onDays(one("BA", 117, "LON", "NYC", 600, 100), uint8(days))
		x := table(t, f)
		for day := range 366 {
			leg := api.Leg{Key: f.Key, Day: day}
			want := bits(uint8(days))[day%7+1]
			if got := x.Flies(leg); got != want {
				t.Fatalf("with Days %d it flies on the day %d: %v", days, day, got)
			}
			level, e := 0, api.ErrNone
			if want {
				level, e = 9, api.OK
			}
			isLevel(t, x, leg, 'Y', level, e)
		}
	}
}

// noDays: numbers that are no days, some of which would be days or weekdays if they wrapped round.
func noDays() []int {
	return []int{-1, -2, -6, -7, -8, -365, -366, 366, 367, 372, 732, 1 << 31, 1 << 32, 1<<32 + 1, -1 << 31, -1 << 32, math.MaxInt, math.MinInt, math.MaxInt - 1, math.MinInt + 1}
}

func TestFliesOnWhatIsNoDayAndOfWhatIsNotThere(t *testing.T) {
	x := table(t, one("BA", 117, "LON", "NYC", 600, 100))
	key := api.Key{Carrier: "BA", Number: 117}
	for _, day := range []int{0, 1, 364, 365} {
		if !x.Flies(api.Leg{Key: key, Day: day}) {
			t.Error("BA117 doesn't fly on the day", day)
		}
		for _, k := range []api.Key{{}, {Carrier: "BA", Number: 118}, {Carrier: "BB", Number: 117}, {Carrier: "BA", Number: -117}} {
			if x.Flies(api.Leg{Key: k, Day: day}) {
				t.Error("flies:", k, day)
			}
		}
	}
	for _, day := range noDays() {
		if x.Flies(api.Leg{Key: key, Day: day}) {
			t.Error("BA117 flies on the day", day)
		}
	}
	if table(t).Flies(api.Leg{Key: key}) {
		t.Error("BA117 flies, and isn't there")
	}
}

// P8.3.

func isLevel(t *testing.T, x *Table, l api.Leg, class byte, want int, wantErr api.Errno) {
	t.Helper()
	if got, e := x.Level(l, class); got != want || e != wantErr {
		t.Fatalf("Level of %v in %q is %d and %v, not %d and %v", l, class, got, e, want, wantErr)
	}
}

func TestLevel(t *testing.T) {
	f := onDays(one("BA", 117, "LON", "NYC", 600, 100), 65)
	f.Classes = []api.Class{{Letter: 'A', Level: 0}, {Letter: 'C', Level: 4}, {Letter: 'F', Level: 1}, {Letter: 'M', Level: 399}, {Letter: 'Y', Level: 9}, {Letter: 'Z', Level: 400}}
	g := one("BA", 118, "LON", "NYC", 600, 100)
	g.Classes = []api.Class{{Letter: 'B', Level: 7}}
	x := table(t, g, f)
	levels := map[byte]int{'A': 0, 'C': 4, 'F': 1, 'M': 399, 'Y': 9, 'Z': 400}
	for n := range 256 {
		class := byte(n)
		level, there := levels[class]
		e := api.ErrClass
		if there {
			e = api.OK
		}
		isLevel(t, x, api.Leg{Key: f.Key, Day: 0}, class, level, e)
		// The last days of the weekdays 6, 7, 1 and 2.
		isLevel(t, x, api.Leg{Key: f.Key, Day: 362}, class, 0, api.ErrNone)
		isLevel(t, x, api.Leg{Key: f.Key, Day: 363}, class, level, e)
		isLevel(t, x, api.Leg{Key: f.Key, Day: 364}, class, level, e)
		isLevel(t, x, api.Leg{Key: f.Key, Day: 365}, class, 0, api.ErrNone)
		isLevel(t, x, api.Leg{Key: f.Key, Day: 1}, class, 0, api.ErrNone)
		isLevel(t, x, api.Leg{Key: api.Key{Carrier: "BA", Number: 119}, Day: 0}, class, 0, api.ErrNone)
		isLevel(t, x, api.Leg{Key: api.Key{Carrier: "XX", Number: 117}, Day: 0}, class, 0, api.ErrNone)
		isLevel(t, x, api.Leg{}, class, 0, api.ErrNone)
		for _, day := range noDays() {
			isLevel(t, x, api.Leg{Key: g.Key, Day: day}, class, 0, api.ErrNone)
		}
	}
	isLevel(t, x, api.Leg{Key: g.Key, Day: 0}, 'B', 7, api.OK)
	isLevel(t, x, api.Leg{Key: g.Key, Day: 365}, 'B', 7, api.OK)
	isLevel(t, x, api.Leg{Key: g.Key, Day: 365}, 'Y', 0, api.ErrClass)
}

func TestBetween(t *testing.T) {
	x := table(t,
		one("U2", 1, "LON", "PAR", 540, 600), one("BA", 20, "LON", "PAR", 540, 500), one("BA", 3, "LON", "PAR", 530, 1439), one("BA", 100, "LON", "PAR", 540, 541),
		one("7U", 9, "PAR", "LON", 1, 2), one("BA", 4, "LON", "PAR", 1439, 10), one("AA", 1, "LON", "ROM", 0, 10), one("AA", 2, "ROM", "PAR", 0, 10), one("ZZ", 5, "LON", "PAR", 0, 10),
		onDays(one("BA", 7, "LON", "PAR", 535, 600), 2),
	)
	isText(t, "LON to PAR", names(x.Between(0, "LON", "PAR")), "ZZ5 BA3 BA20 BA100 U21 BA4")
	isText(t, "on weekday 2", names(x.Between(1, "LON", "PAR")), "ZZ5 BA3 BA7 BA20 BA100 U21 BA4")
	isText(t, "on the last day but one, of weekday 1", names(x.Between(364, "LON", "PAR")), "ZZ5 BA3 BA20 BA100 U21 BA4")
	isText(t, "on the last day, of weekday 2", names(x.Between(365, "LON", "PAR")), "ZZ5 BA3 BA7 BA20 BA100 U21 BA4")
	isText(t, "PAR to LON", names(x.Between(0, "PAR", "LON")), "7U9")
	isText(t, "nothing of two flights", names(x.Between(0, "ROM", "LON")), "")
	for _, day := range noDays() {
		isText(t, "no day", names(x.Between(day, "LON", "PAR")), "")
	}
	for _, c := range [][2]string{{"LON", "LON"}, {"PAR", "PAR"}, {"", ""}, {"LON", ""}, {"", "PAR"}, {"lon", "par"}, {"LO", "PAR"}, {"LON", "PARI"}, {"XXX", "PAR"}, {"LON", "XXX"}, {"LON ", "PAR"}, {"LONPAR", ""}} {
		isText(t, c[0]+" to "+c[1], names(x.Between(0, c[0], c[1])), "")
	}
	isText(t, "of nothing", names(table(t).Between(0, "LON", "PAR")), "")
	want := one("BA", 3, "LON", "PAR", 530, 1439)
	if got := x.Between(0, "LON", "PAR")[1]; !reflect.DeepEqual(got, want) {
		t.Errorf("Between tells %v, not %v", got, want)
	}
}

func TestLinksBy45Minutes(t *testing.T) {
	first := one("BA", 1, "LON", "PAR", 540, 600)
	for depart := range 1440 {
		want := ""
		if depart >= 645 {
			want = "BA1+BA2"
		}
		x := table(t, first, one("BA", 2, "PAR", "ROM", depart, 700))
		isText(t, "a second flight at "+Text(api.Key{Number: depart}), linkNames(x.Links(0, "LON", "ROM")), want)
	}
	for _, c := range []struct {
		depart, arrive, second int
		want                   string
	}{
		{0, 0, 44, ""}, {0, 0, 45, "BA1+BA2"}, {0, 0, 46, "BA1+BA2"}, {0, 1394, 1438, ""}, {0, 1394, 1439, "BA1+BA2"}, {0, 1395, 1439, ""}, {0, 1439, 1439, ""}, {0, 1439, 44, ""}, {0, 1439, 45, ""},
		// It arrives at the minute at which it departs: on that day. A minute sooner: on the next one.
		{600, 600, 645, "BA1+BA2"}, {600, 600, 644, ""}, {600, 599, 645, ""}, {600, 599, 1439, ""}, {1439, 0, 45, ""}, {1439, 0, 1439, ""}, {1, 0, 45, ""}, {1, 0, 1439, ""}, {1439, 1438, 1439, ""},
	} {
		x := table(t, one("BA", 1, "LON", "PAR", c.depart, c.arrive), one("BA", 2, "PAR", "ROM", c.second, 700))
		isText(t, "edges of a link", linkNames(x.Links(0, "LON", "ROM")), c.want)
	}
	// The second one may arrive on the next day.
	isText(t, "a night", linkNames(table(t, first, one("BA", 2, "PAR", "ROM", 1439, 0)).Links(0, "LON", "ROM")), "BA1+BA2")
}

func TestLinksByEachPartOfTheOrder(t *testing.T) {
	// The first one's Depart, though all other parts are the other way round.
	x := table(t, one("BA", 1, "LON", "PAR", 101, 200), one("ZZ", 9, "LON", "NYC", 100, 900), one("BA", 2, "PAR", "ROM", 300, 400), one("ZZ", 8, "NYC", "ROM", 1000, 1100))
	isText(t, "by the first Depart", linkNames(x.Links(0, "LON", "ROM")), "ZZ9+ZZ8 BA1+BA2")
	// Of one Depart: the first one's carrier, then its number, though the second one departs later and is a greater one.
	x = table(t, one("BA", 10, "LON", "PAR", 100, 200), one("BA", 9, "LON", "NYC", 100, 900), one("AA", 11, "LON", "OSL", 100, 950),
		one("BA", 2, "PAR", "ROM", 300, 400), one("ZZ", 8, "NYC", "ROM", 1000, 1100), one("ZZ", 9, "OSL", "ROM", 1001, 1100))
	isText(t, "by the first one's order", linkNames(x.Links(0, "LON", "ROM")), "AA11+ZZ9 BA9+ZZ8 BA10+BA2")
	// Of one first flight: the second one's Depart, though its order is the other way round.
	x = table(t, one("BA", 1, "LON", "PAR", 100, 200), one("BA", 2, "PAR", "ROM", 301, 302), one("ZZ", 9, "PAR", "ROM", 300, 1439))
	isText(t, "by the second Depart", linkNames(x.Links(0, "LON", "ROM")), "BA1+ZZ9 BA1+BA2")
	// Of one second Depart: its carrier, then its number.
	x = table(t, one("BA", 1, "LON", "PAR", 100, 200), one("BA", 10, "PAR", "ROM", 300, 302), one("BA", 9, "PAR", "ROM", 300, 1439), one("AA", 11, "PAR", "ROM", 300, 301))
	isText(t, "by the second one's order", linkNames(x.Links(0, "LON", "ROM")), "BA1+AA11 BA1+BA9 BA1+BA10")
	// Two first ones of one Depart with two second ones each: what the second ones are doesn't part the pairs of a first one.
	x = table(t, one("BA", 1, "LON", "PAR", 100, 200), one("BA", 2, "LON", "PAR", 100, 200), one("BA", 3, "PAR", "ROM", 400, 500), one("BA", 4, "PAR", "ROM", 300, 500))
	isText(t, "pairs", linkNames(x.Links(0, "LON", "ROM")), "BA1+BA4 BA1+BA3 BA2+BA4 BA2+BA3")
}

func TestLinksOnDaysAndOfCities(t *testing.T) {
	x := table(t,
		onDays(one("BA", 1, "LON", "PAR", 100, 200), 65), onDays(one("BA", 2, "PAR", "ROM", 300, 400), 3), onDays(one("BA", 3, "PAR", "LON", 300, 400), 127),
		onDays(one("BA", 4, "LON", "ROM", 100, 200), 127), onDays(one("BA", 5, "ROM", "LON", 300, 400), 127), onDays(one("BA", 6, "OSL", "ROM", 300, 400), 127),
	)
	for day := range 366 {
		// Both fly on weekday 1 alone: the first one on 7 too, the second one on 2.
		want := ""
		if day%7 == 0 {
			want = "BA1+BA2"
		}
		isText(t, "LON to ROM", linkNames(x.Links(day, "LON", "ROM")), want)
	}
	for _, day := range noDays() {
		isText(t, "no day", linkNames(x.Links(day, "LON", "ROM")), "")
	}
	// A link goes from a city to another one.
	for _, city := range []string{"LON", "PAR", "ROM", "", "XXX"} {
		isText(t, city+" to itself", linkNames(x.Links(0, city, city)), "")
	}
	for _, c := range [][2]string{{"LON", ""}, {"", "ROM"}, {"lon", "rom"}, {"LO", "ROM"}, {"LON", "ROMA"}, {"XXX", "ROM"}, {"LON", "XXX"}, {"ROM", "OSL"}, {"OSL", "PAR"}, {"PAR", "OSL"}} {
		isText(t, c[0]+" to "+c[1], linkNames(x.Links(0, c[0], c[1])), "")
	}
	isText(t, "of nothing", linkNames(table(t).Links(0, "LON", "ROM")), "")
	link := x.Links(0, "LON", "ROM")[0]
	want := [2]api.Flight{onDays(one("BA", 1, "LON", "PAR", 100, 200), 65), onDays(one("BA", 2, "PAR", "ROM", 300, 400), 3)}
	if !reflect.DeepEqual(link, want) {
		t.Errorf("Links tells %v, not %v", link, want)
	}
}

// A flight without a stop is no link, nor are three flights.
func TestLinksAreOfTwoFlights(t *testing.T) {
	x := table(t, one("BA", 1, "LON", "PAR", 100, 200), one("BA", 2, "PAR", "ROM", 300, 400), one("BA", 3, "ROM", "NYC", 500, 600), one("BA", 4, "LON", "NYC", 100, 200))
	isText(t, "three flights, or one", linkNames(x.Links(0, "LON", "NYC")), "")
	isText(t, "the first two", linkNames(x.Links(0, "LON", "ROM")), "BA1+BA2")
	isText(t, "the last two", linkNames(x.Links(0, "PAR", "NYC")), "BA2+BA3")
}
