package code

import (
	"regexp"
	"strings"
	"testing"
)

// kind: one of the calls that take a text, and the same told by a pattern and a greatest length.
type kind struct {
	name        string
	is          func(string) bool
	pattern     *regexp.Regexp
	least, most int // bytes
	good        []string
}

func kinds() []kind {
	return []kind{
		{"City", City, regexp.MustCompile(`\A[A-Z]{3}\z`), 3, 3, []string{"LON", "AAA", "ZZZ", "AMZ"}},
		{"Carrier", Carrier, regexp.MustCompile(`\A([A-Z][A-Z0-9]|[0-9][A-Z])\z`), 2, 2, []string{"BA", "7U", "U2", "A0", "9Z"}},
		{"Agent", Agent, regexp.MustCompile(`\A[A-Z][A-Z0-9]{1,5}\z`), 2, 6, []string{"A1", "AG", "Z9", "AG1", "A0Z9", "AB1CD", "A23456", "ZZZZZZ"}},
		{"Person", Person, regexp.MustCompile(`\A[A-Z]{1,16}\z`), 1, 16, []string{"O", "A", "Z", "SMITH", "ANN", "ABCDEFGHIJKLMNOP", "KLMNOPQRSTUVWXYZ"}},
		{"Locator", Locator, regexp.MustCompile(`\A[A-Z]{6}\z`), 6, 6, []string{"IIDISM", "SSHNCN", "AAAAAA", "ZZZZZZ"}},
		{"Free", Free, regexp.MustCompile(`\A[A-Z0-9./-]+( [A-Z0-9./-]+)*\z`), 1, 40, []string{
			"A", "0", ".", "-", "/", "A B", "020 7946/1-2 AB", ". - /", "//", "--", "..", "9 Z", "A B C D E F G",
			strings.Repeat("A", 40), strings.Repeat("A ", 19) + "AB", "A" + strings.Repeat("-", 38) + "Z",
		}},
	}
}

func (k kind) want(s string) bool {
	return len(s) <= k.most && k.pattern.MatchString(s)
}

func (k kind) check(t *testing.T, s string) {
	t.Helper()
	if got, want := k.is(s), k.want(s); got != want {
		t.Fatalf("%s(%q) is %v, not %v", k.name, s, got, want)
	}
}

// P2.1.

func TestExamples(t *testing.T) {
	if !City("LON") {
		t.Error("LON is a city")
	}
	if !Carrier("BA") || !Carrier("7U") || !Carrier("U2") || Carrier("77") {
		t.Error("BA, 7U and U2 are carriers, 77 is none")
	}
	if !Agent("A1") || Agent("A") || Agent("1A") {
		t.Error("A1 is an agent, A and 1A are none")
	}
	if !Person("O") || Person("O'HARA") {
		t.Error("a person may be O, not O'HARA")
	}
	if !Free("020 7946/1-2 AB") {
		t.Error("020 7946/1-2 AB is a free text")
	}
	if Free("") || Free(strings.Repeat("A", 41)) || Free("A  B") {
		t.Error("a text of nothing, of 41 bytes and A  B are no free texts")
	}
}

func TestGoodTexts(t *testing.T) {
	for _, k := range kinds() {
		for _, s := range k.good {
			if !k.is(s) {
				t.Errorf("%s(%q) is false", k.name, s)
			}
		}
	}
}

func TestWrongTexts(t *testing.T) {
	wrong := map[string][]string{
		"City":    {"", "LO", "LOND", "lon", "Lon", "L1N", "1ON", "LO1", "L N", " ON", "LO ", "L-N", "LON\n", "LO\n", "É1", "ÉN", "\x00\x00\x00"},
		"Carrier": {"", "B", "7", "77", "00", "99", "BAA", "7UU", "ba", "b2", "2b", "B ", " B", "-B", "B.", "É", "B\x00", "\x00B"},
		"Agent":   {"", "A", "1", "1A", "11", "9ABC", "A234567", "ABCDEFG", "a1", "Aa", "A1b", "A ", " A1", "A-", "A1.", "A/B", "AÉ", "É1", "A\x00"},
		"Person":  {"", "A1", "1A", "O'HARA", "S M", " SM", "SM ", "S-M", "S.", "smith", "Smith", "ÉMILE", "ABCDEFGHIJKLMNOPQ", "A\x00", "\x00"},
		"Locator": {"", "ABCDE", "ABCDEFG", "ABC1EF", "1BCDEF", "ABCDE1", "abcdef", "ABCDEf", "ABC EF", "ABCDE ", "ABC-EF", "ABCDÉ", "ABCDE\x00"},
		"Free":    {"", " ", "  ", " A", "A ", "A  B", "A   B", " A B", "A B ", "A B  C", "a", "Ab", "A+B", "A,B", "A:B", "A@B", "A[B", "A*B", "A'B", "A\tB", "A\n", "\nA", "A\x00B", "\x00", "É", "A\xffB", "A\u00a0B", strings.Repeat("A", 41)},
	}
	for _, k := range kinds() {
		for _, s := range wrong[k.name] {
			if k.is(s) {
				t.Errorf("%s(%q) is true", k.name, s)
			}
		}
	}
}

func TestLengths(t *testing.T) {
	for _, k := range kinds() {
		for length := range 300 {
			s := strings.Repeat("M", length)
			if got, want := k.is(s), length >= k.least && length <= k.most; got != want {
				t.Errorf("%s of %d letters is %v", k.name, length, got)
			}
		}
		// Lengths that a byte or two bytes would count as right ones.
		for _, length := range []int{256 + k.least, 256 + k.most, 65536 + k.least, 65536 + k.most} {
			if k.is(strings.Repeat("M", length)) {
				t.Errorf("%s of %d letters is true", k.name, length)
			}
		}
	}
}

func TestEveryByteAtEveryPlace(t *testing.T) {
	for _, k := range kinds() {
		for _, s := range k.good {
			for at := range len(s) {
				for c := range 256 {
					k.check(t, s[:at]+string([]byte{byte(c)})+s[at+1:])
				}
			}
		}
	}
}

func TestEveryByteMoreAndEveryByteLess(t *testing.T) {
	for _, k := range kinds() {
		for _, s := range k.good {
			for at := range len(s) + 1 {
				for c := range 256 {
					k.check(t, s[:at]+string([]byte{byte(c)})+s[at:])
				}
			}
			for at := range len(s) {
				k.check(t, s[:at]+s[at+1:])
			}
		}
	}
}

// short: all texts of up to so many bytes of these.
func short(of string, most int) []string {
	out := []string{""}
	for from := 0; most > 0; most-- {
		to := len(out)
		for ; from < to; from++ {
			for i := range len(of) {
				out = append(out, out[from]+of[i:i+1])
			}
		}
	}
	return out
}

func TestAllShortTexts(t *testing.T) {
	texts := append(short("AZ09 -a@", 4), short("A1 ", 8)...)
	for _, k := range kinds() {
		for _, s := range texts {
			k.check(t, s)
		}
	}
}

func TestClass(t *testing.T) {
	for c := range 256 {
		want := strings.Contains("ABCDEFGHIJKLMNOPQRSTUVWXYZ", string([]byte{byte(c)}))
		if got := Class(byte(c)); got != want {
			t.Errorf("Class(%d) is %v", c, got)
		}
	}
}

func TestCarrierOfTwoDigits(t *testing.T) {
	for a := byte('0'); a <= '9'; a++ {
		for b := byte('0'); b <= '9'; b++ {
			if s := string([]byte{a, b}); Carrier(s) {
				t.Errorf("Carrier(%q) is true", s)
			}
		}
	}
}

func TestAgentThatBeginsWithADigit(t *testing.T) {
	for a := byte('0'); a <= '9'; a++ {
		for _, rest := range []string{"A", "1", "AG", "AG1", "AG12", "AG123"} {
			if s := string([]byte{a}) + rest; Agent(s) {
				t.Errorf("Agent(%q) is true", s)
			}
		}
	}
}

func TestFreeBlanks(t *testing.T) {
	for length := 1; length <= 41; length++ {
		text := strings.Repeat("X", length)
		for at := range length {
			one := text[:at] + " " + text[at+1:]
			inside := at > 0 && at < length-1
			if got, want := Free(one), inside && length <= 40; got != want {
				t.Errorf("%d bytes, a blank at %d: %v", length, at, got)
			}
			if at+1 < length && Free(text[:at]+"  "+text[at+2:]) {
				t.Errorf("%d bytes, two blanks at %d: true", length, at)
			}
		}
	}
}

// P2.2.

func TestUpperExamples(t *testing.T) {
	for s, want := range map[string]string{
		"":                           "",
		"a":                          "A",
		"z":                          "Z",
		"abcdefghijklmnopqrstuvwxyz": "ABCDEFGHIJKLMNOPQRSTUVWXYZ",
		"ABCDEFGHIJKLMNOPQRSTUVWXYZ": "ABCDEFGHIJKLMNOPQRSTUVWXYZ",
		"si*ag1/lon":                 "SI*AG1/LON",
		"-smith/Ann":                 "-SMITH/ANN",
		"`{@[ 019":                   "`{@[ 019",
		"aZ{z`1\xff é":               "AZ{Z`1\xff é",
		"éßſıÿǆ":                     "éßſıÿǆ", // runes that have great letters of their own stay
		"a\xc3":                      "A\xc3",
		"\xe1a\x80b":                 "\xe1A\x80B",
		"a\x00b\n":                   "A\x00B\n",
		"  a  ":                      "  A  ",
	} {
		if got := Upper(s); got != want {
			t.Errorf("Upper(%q) is %q, not %q", s, got, want)
		}
	}
}

func TestUpperEveryByte(t *testing.T) {
	for a := range 256 {
		wantA := byte(a)
		if i := strings.IndexByte("abcdefghijklmnopqrstuvwxyz", byte(a)); i >= 0 {
			wantA = "ABCDEFGHIJKLMNOPQRSTUVWXYZ"[i]
		}
		for _, front := range []string{"", "Q", "\xc3", "\xe2\x80", strings.Repeat("-", 300)} {
			for _, back := range []string{"", "Q", "\x80", "\xff"} {
				s := front + string([]byte{byte(a)}) + back
				want := front + string([]byte{wantA}) + back
				if got := Upper(s); got != want {
					t.Errorf("Upper(%q) is %q, not %q", s, got, want)
				}
			}
		}
	}
}

func TestUpperOfAnswersIsTheSame(t *testing.T) {
	for _, s := range short("aZ\xff `", 4) {
		once := Upper(s)
		if len(once) != len(s) || Upper(once) != once {
			t.Errorf("Upper(%q) is %q, and of that %q", s, once, Upper(once))
		}
	}
}

// P2.3.

func TestCitiesAgentsPersonsAndLocatorsAreFree(t *testing.T) {
	texts := append(short("AMZ059 -", 6), strings.Repeat("Z", 16))
	for _, k := range kinds() {
		texts = append(texts, k.good...)
	}
	for length := 1; length <= 16; length++ {
		texts = append(texts, "ABCDEFGHIJKLMNOPQRSTUVWXYZ"[:length])
	}
	found := 0
	for _, s := range texts {
		if City(s) || Agent(s) || Person(s) || Locator(s) {
			found++
			if !Free(s) {
				t.Errorf("%q is no free text", s)
			}
		}
	}
	if found < 1000 {
		t.Error("only so many were looked at:", found)
	}
}

// freeOf: free texts of so many bytes, of all forms that matter at their ends and inside.
func freeOf(length int) []string {
	out := []string{strings.Repeat("A", length), strings.Repeat("/", length), strings.Repeat("9", length)}
	if length > 2 {
		out = append(out, "."+strings.Repeat("-", length-2)+"Z", "A "+strings.Repeat("B", length-2), strings.Repeat("B", length-2)+" A")
	}
	return out
}

func TestFreeTextsPutTogether(t *testing.T) {
	for left := 1; left <= 40; left++ {
		for right := 1; right <= 40; right++ {
			for _, a := range freeOf(left) {
				for _, b := range freeOf(right) {
					if !Free(a) || !Free(b) {
						t.Fatalf("%q or %q is no free text", a, b)
					}
					s := a + " " + b
					if got, want := Free(s), len(s) <= 40; got != want {
						t.Fatalf("Free(%q), %d bytes, is %v", s, len(s), got)
					}
				}
			}
		}
	}
}

func TestManyFreeTextsPutTogether(t *testing.T) {
	for count := 1; count <= 30; count++ {
		for _, part := range []string{"A", "1", ".", "-", "/", "AG1", "A B", "020 7946/1-2"} {
			s := part + strings.Repeat(" "+part, count-1)
			if got, want := Free(s), len(s) <= 40; got != want {
				t.Errorf("Free(%q), %d bytes, is %v", s, len(s), got)
			}
		}
	}
}
