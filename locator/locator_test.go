package locator

import (
	"math"
	"math/big"
	"math/rand"
	"testing"

	"jetway/api"
	"jetway/code"
)

// The chapter's numbers, written out once more: the tests must not lean on the constants they watch.
const (
	wantFactor = 123456789
	wantShift  = 98765432
	wantCount  = 308915776
)

// plainText: the chapter's sum with numbers of any size, whose digits to the base 26 are told by math/big, 0 to 9 and then a to p.
func plainText(n int) string {
	sum := big.NewInt(int64(n))
	sum.Mul(sum, big.NewInt(wantFactor))
	sum.Add(sum, big.NewInt(wantShift))
	sum.Mod(sum, big.NewInt(wantCount))
	digits := sum.Text(26)
	for len(digits) < 6 {
		digits = "0" + digits
	}
	out := ""
	for _, d := range digits {
		if d >= 'a' {
			out += string(d - 'a' + 10 + 'A')
		} else {
			out += string(d - '0' + 'A')
		}
	}
	return out
}

// is: n and s belong together, both ways.
func is(t *testing.T, n int, s string) {
	t.Helper()
	if got, e := Text(n); got != s || e != api.OK {
		t.Fatalf("Text(%d) is %q and %v, not %q and OK", n, got, e, s)
	}
	if got, ok := Number(s); got != n || !ok {
		t.Fatalf("Number(%q) is %d and %v, not %d and true", s, got, ok, n)
	}
}

// isNone: s is the text of no number.
func isNone(t *testing.T, s string) {
	t.Helper()
	if n, ok := Number(s); n != 0 || ok {
		t.Errorf("Number(%q) is %d and %v, not 0 and false", s, n, ok)
	}
}

func drawnText(draw *rand.Rand) string {
	out := make([]byte, 6)
	for i := range out {
		out[i] = byte('A' + draw.Intn(26))
	}
	return string(out)
}

// P7.1.

func TestExamples(t *testing.T) {
	is(t, 0, "IIDISM")
	is(t, 1, "SSHNCN")
	isNone(t, "ABC")
}

func TestEdges(t *testing.T) {
	for _, n := range []int{
		0, 1, 2, 25, 26, 27, 308915774, 308915775,
		// Just below and just above these the products come to 2^31, 2^32 and 2^53; then the middle.
		17, 18, 34, 35, 72958314, 72958315, 154457887, 154457888,
	} {
		is(t, n, plainText(n))
	}
}

// Each power of two that a product may be just below or just above, where a product of fewer bits would wrap round or lose its low bits.
func TestProductsAboutPowersOfTwo(t *testing.T) {
	for bits := 27; bits <= 55; bits++ {
		about := (1 << bits) / wantFactor
		for n := max(0, about-2); n <= min(about+2, wantCount-1); n++ {
			is(t, n, plainText(n))
		}
	}
}

func TestDrawnNumbers(t *testing.T) {
	draw := rand.New(rand.NewSource(7))
	for range 50000 {
		n := draw.Intn(wantCount)
		is(t, n, plainText(n))
	}
}

func TestNumbersOutOfRange(t *testing.T) {
	for _, n := range []int{
		308915776, 308915777, -1, -2, -308915775, -308915776, math.MaxInt, math.MinInt, math.MaxInt - 1, math.MinInt + 1,
		// Taken to 32 bits, these would be numbers from 0 to 308915775.
		1 << 32, 1<<32 + 1, 1<<32 + 308915775, -1 << 32, -1<<32 + 1, 1 << 31, 1<<31 - 1, -1 << 31, 1<<32 - 1, 1 << 62,
	} {
		if s, e := Text(n); s != "" || e != api.ErrRange {
			t.Errorf("Text(%d) is %q and %v, not nothing and ErrRange", n, s, e)
		}
	}
}

func TestTextsThatAreNone(t *testing.T) {
	for _, s := range []string{
		"", "A", "AA", "AAA", "AAAA", "AAAAA", "AAAAAAA", "IIDIS", "IDISM", "IIDISMA", "AIIDISM", "IIDISM ", " IIDISM", "IIDISM\x00", "IIDISM\n",
		"iidism", "IIDISm", "000000", "123456", "IIDISMIIDISM", "ÄIISM", "IIDIÄ", "ÄÄÄ",
	} {
		isNone(t, s)
	}
	for _, good := range []string{"IIDISM", "AAAAAA", "ZZZZZZ", "JETWAY"} {
		for place := range 6 {
			for c := range 256 {
				if c >= 'A' && c <= 'Z' {
					continue
				}
				isNone(t, good[:place]+string([]byte{byte(c)})+good[place+1:])
			}
		}
	}
}

// A text of five letters isn't one of six whose first is A, though its digits are the same number.
func TestNoLetterIsLeftOut(t *testing.T) {
	for _, s := range []string{"AAAAAA", "AAAAAB", "AAAABA", "ABCDEF", "AZZZZZ"} {
		n, ok := Number(s)
		if !ok {
			t.Errorf("Number(%q) is false", s)
		}
		is(t, n, s)
		isNone(t, s[1:])
		isNone(t, "A"+s)
	}
}

// P7.2.

func TestEachDrawnLocatorIsOneNumbers(t *testing.T) {
	draw := rand.New(rand.NewSource(72))
	texts := []string{"AAAAAA", "ZZZZZZ", "AAAAAZ", "ZAAAAA", "JETWAY", "IIDISL", "IIDISN"}
	for range 50000 {
		texts = append(texts, drawnText(draw))
	}
	for _, s := range texts {
		n, ok := Number(s)
		if !ok || n < 0 || n >= wantCount {
			t.Fatalf("Number(%q) is %d and %v", s, n, ok)
		}
		if plainText(n) != s {
			t.Fatalf("Number(%q) is %d, whose text is %q", s, n, plainText(n))
		}
		is(t, n, s)
	}
}

// Every letter at every place, the others as they are.
func TestEveryLetterAtEveryPlace(t *testing.T) {
	for place := range 6 {
		seen := map[int]string{}
		for c := byte('A'); c <= 'Z'; c++ {
			s := "JETWAY"[:place] + string(c) + "JETWAY"[place+1:]
			n, ok := Number(s)
			if other, has := seen[n]; has || !ok {
				t.Errorf("Number(%q) is %d and %v, as of %q", s, n, ok, other)
			}
			seen[n] = s
			is(t, n, s)
		}
	}
}

func TestTextsOfUnlikeNumbersAreUnlike(t *testing.T) {
	seen := map[string]int{}
	tell := func(n int) {
		s, e := Text(n)
		if e != api.OK || !code.Locator(s) {
			t.Fatalf("Text(%d) is %q and %v", n, s, e)
		}
		if other, has := seen[s]; has && other != n {
			t.Fatalf("Text of %d and of %d is %q", other, n, s)
		}
		seen[s] = n
	}
	for i := range 20000 {
		tell(i)
		tell(wantCount - 1 - i)
		tell(i * 15445 % wantCount) // across the whole range
	}
	// Numbers that are a part of 26^6 apart: a factor with a divisor in common with it would give some of these one text.
	for two := 1; two <= 64; two *= 2 {
		for thirteen := 1; thirteen <= 4826809; thirteen *= 13 {
			apart := wantCount / (two * thirteen)
			for i := range min(two*thirteen, 200) {
				tell(i * apart)
			}
		}
	}
}

func TestNumbersSideBySide(t *testing.T) {
	for _, first := range []int{0, 1000, 35, 72957314, wantCount - 2000} {
		for n := first; n < first+2000-1; n++ {
			one, _ := Text(n)
			next, _ := Text(n + 1)
			if one == next {
				t.Fatalf("Text of %d and of the next one is %q", n, one)
			}
			// What the chapter is for: already the first letter tells them apart.
			if one[0] == next[0] {
				t.Fatalf("%q and %q, of %d and the next one, begin alike", one, next, n)
			}
		}
	}
}

// Whatever was asked ahead, the answer is the same.
func TestAnswersHangOnArgumentsAlone(t *testing.T) {
	is(t, 12345, plainText(12345))
	if _, e := Text(-1); e != api.ErrRange {
		t.Error("Text(-1) is", e)
	}
	isNone(t, "AAAAA1")
	is(t, 308915775, plainText(308915775))
	is(t, 12345, plainText(12345))
}
