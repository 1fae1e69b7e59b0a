package word

import (
	"bytes"
	"encoding/binary"
	"hash/crc32"
	"math"
	"testing"

	"jetway/api"
)

// numbers: both sides of every power of two, and what lies between them unevenly.
func numbers() []uint64 {
	out := []uint64{0, 300, 515, 0x0102030405060708, 0xFEDCBA9876543210, math.MaxUint64 - 1, math.MaxUint64}
	for i := range 64 {
		p := uint64(1) << i
		out = append(out, p-1, p, p+1, p|p>>3)
	}
	return out
}

// fronts: what a number may be laid behind.
func fronts() [][]byte {
	return [][]byte{nil, {}, {0}, {9}, {255, 128, 0}, []byte("a longer front than a number has bytes")}
}

// roomy: text, in memory with spare room behind it that is all 0xAA.
func roomy(text []byte) []byte {
	whole := bytes.Repeat([]byte{0xAA}, len(text)+32)
	return whole[:copy(whole, text)]
}

// spare: the room behind b.
func spare(b []byte) []byte { return b[len(b):cap(b)] }

// checkKept tells if what was handed in, or its spare room, isn't as it was.
func checkKept(t *testing.T, name string, b, text []byte) {
	t.Helper()
	if !bytes.Equal(b, text) {
		t.Errorf("%s: what was handed in is now %v, was %v", name, b, text)
	}
	if s := spare(b); !bytes.Equal(s, bytes.Repeat([]byte{0xAA}, len(s))) {
		t.Errorf("%s: the spare room of what was handed in is now %v", name, s)
	}
}

// checkApart tells if the answer shares memory with what was handed in.
func checkApart(t *testing.T, name string, b, answer []byte) {
	t.Helper()
	b = b[:cap(b)]
	was := bytes.Clone(b)
	answer = answer[:cap(answer)]
	for i := range answer {
		answer[i] ^= 0xFF
	}
	if !bytes.Equal(b, was) {
		t.Errorf("%s: the answer shares memory with what was handed in", name)
	}
}

// P1.1: Put.

func TestPutExamples(t *testing.T) {
	for _, x := range []struct {
		b    []byte
		n    uint64
		size int
		want []byte
	}{
		{nil, 258, 2, []byte{1, 2}},
		{nil, 0, 1, []byte{0}},
		{nil, 0, 8, []byte{0, 0, 0, 0, 0, 0, 0, 0}},
		{nil, 255, 1, []byte{255}},
		{nil, 256, 1, []byte{0}},
		{[]byte{9}, 0x10203, 2, []byte{9, 2, 3}},
		{[]byte{9, 8}, 7, 4, []byte{9, 8, 0, 0, 0, 7}},
		{nil, 0x0102030405060708, 8, []byte{1, 2, 3, 4, 5, 6, 7, 8}},
		{nil, 0x0102030405060708, 5, []byte{4, 5, 6, 7, 8}},
		{nil, math.MaxUint64, 3, []byte{255, 255, 255}},
		{nil, math.MaxUint64, 8, []byte{255, 255, 255, 255, 255, 255, 255, 255}},
	} {
		if got := Put(x.b, x.n, x.size); !bytes.Equal(got, x.want) {
			t.Errorf("Put(%v, %d, %d) is %v, not %v", x.b, x.n, x.size, got, x.want)
		}
	}
}

func TestPutEverySize(t *testing.T) {
	for _, front := range fronts() {
		for _, n := range numbers() {
			all := binary.BigEndian.AppendUint64(nil, n)
			for size := range 9 {
				want := append(bytes.Clone(front), all[8-size:]...)
				if got := Put(front, n, size); !bytes.Equal(got, want) {
					t.Fatalf("Put(%v, %d, %d) is %v, not %v", front, n, size, got, want)
				}
			}
		}
	}
}

func TestPutSizeOutside(t *testing.T) {
	for _, size := range []int{-1, -3, -8, math.MinInt} {
		if got := Put([]byte{7, 6}, math.MaxUint64, size); !bytes.Equal(got, []byte{7, 6}) {
			t.Errorf("size %d: %v", size, got)
		}
		if got := Put(nil, 5, size); len(got) != 0 {
			t.Errorf("size %d behind nothing: %v", size, got)
		}
	}
	for _, size := range []int{9, 12, 64, math.MaxInt} {
		want := []byte{7, 1, 2, 3, 4, 5, 6, 7, 8}
		if got := Put([]byte{7}, 0x0102030405060708, size); !bytes.Equal(got, want) {
			t.Errorf("size %d: %v", size, got)
		}
	}
}

func TestPutKeepsWhatIsHandedIn(t *testing.T) {
	for _, front := range fronts() {
		for _, size := range []int{-1, 0, 1, 2, 8, 9} {
			b := roomy(front)
			got := Put(b, 0x1112131415161718, size)
			checkKept(t, "Put", b, front)
			checkApart(t, "Put", b, got)
		}
	}
}

func TestPutAnswersShareNothing(t *testing.T) {
	b := roomy([]byte{1})
	first, second := Put(b, 2, 1), Put(b, 3, 1)
	if !bytes.Equal(first, []byte{1, 2}) || !bytes.Equal(second, []byte{1, 3}) {
		t.Error(first, second)
	}
	checkApart(t, "Put", first, second)
}

// P1.1: Get.

func TestGetReadsWhatPutHasLaid(t *testing.T) {
	for _, front := range fronts() {
		for _, n := range numbers() {
			for size := 1; size <= 8; size++ {
				want := n
				if size < 8 {
					want = n % (1 << (8 * size))
				}
				b := Put(front, n, size)
				for _, text := range [][]byte{b, append(bytes.Clone(b), 0xEE, 1)} {
					got, e := Get(text, len(front), size)
					if got != want || e != api.OK {
						t.Fatalf("Get(%v, %d, %d) is %d, %v, not %d", text, len(front), size, got, e, want)
					}
				}
			}
		}
	}
}

func TestGetRange(t *testing.T) {
	for _, b := range [][]byte{nil, {1, 2, 3}, make([]byte, 100)} {
		for _, x := range [][2]int{
			{0, 0}, {0, -1}, {0, 9}, {0, math.MinInt}, {0, math.MaxInt}, {1, 10},
			{-1, 1}, {-1, 8}, {math.MinInt, 1}, {math.MinInt, 8},
			{-1, 0}, {-1, 9}, {math.MinInt, math.MinInt}, {math.MaxInt, math.MaxInt},
			{200, 0}, {200, 9}, {math.MaxInt, 0}, {math.MaxInt, 9}, // too short as well: ErrRange is named first
		} {
			if n, e := Get(b, x[0], x[1]); n != 0 || e != api.ErrRange {
				t.Errorf("Get(%d bytes, %d, %d) is %d, %v", len(b), x[0], x[1], n, e)
			}
		}
	}
}

func TestGetShort(t *testing.T) {
	for length := range 12 {
		b := roomy(bytes.Repeat([]byte{1}, length)) // spare room doesn't count as bytes
		for size := 1; size <= 8; size++ {
			for _, at := range []int{length - size + 1, length, length + 1, math.MaxInt - 8, math.MaxInt - 1, math.MaxInt} {
				if at < 0 {
					continue
				}
				if n, e := Get(b, at, size); n != 0 || e != api.ErrShort {
					t.Errorf("Get(%d bytes, %d, %d) is %d, %v", length, at, size, n, e)
				}
			}
			if length >= size {
				if n, e := Get(b, length-size, size); n == 0 || e != api.OK {
					t.Errorf("Get(%d bytes, %d, %d), the last ones, is %d, %v", length, length-size, size, n, e)
				}
			}
		}
	}
}

func TestGetKeepsWhatIsHandedIn(t *testing.T) {
	text := []byte{1, 2, 3, 4, 5, 6, 7, 8, 9}
	b := roomy(text)
	for _, at := range []int{-1, 0, 1, 5, 9, 20} {
		for _, size := range []int{0, 1, 4, 8, 9} {
			Get(b, at, size)
			checkKept(t, "Get", b, text)
		}
	}
}

// P1.2: Var.

func TestVarExamples(t *testing.T) {
	for _, x := range []struct {
		n    uint64
		want []byte
	}{
		{0, []byte{0}},
		{1, []byte{1}},
		{127, []byte{127}},
		{128, []byte{128, 1}},
		{300, []byte{172, 2}},
		{16383, []byte{255, 127}},
		{16384, []byte{128, 128, 1}},
		{1<<63 - 1, []byte{255, 255, 255, 255, 255, 255, 255, 255, 127}},
		{1 << 63, []byte{128, 128, 128, 128, 128, 128, 128, 128, 128, 1}},
		{math.MaxUint64, []byte{255, 255, 255, 255, 255, 255, 255, 255, 255, 1}},
	} {
		for _, front := range fronts() {
			want := append(bytes.Clone(front), x.want...)
			if got := Var(front, x.n); !bytes.Equal(got, want) {
				t.Errorf("Var(%v, %d) is %v, not %v", front, x.n, got, want)
			}
		}
	}
}

func TestVarAllNumbers(t *testing.T) {
	for _, n := range numbers() {
		want := binary.AppendUvarint([]byte("a"), n)
		if got := Var([]byte("a"), n); !bytes.Equal(got, want) {
			t.Errorf("Var of %d is %v, not %v", n, got, want)
		}
	}
}

func TestVarKeepsWhatIsHandedIn(t *testing.T) {
	for _, front := range fronts() {
		for _, n := range []uint64{0, 127, 128, math.MaxUint64} {
			b := roomy(front)
			got := Var(b, n)
			checkKept(t, "Var", b, front)
			checkApart(t, "Var", b, got)
		}
	}
}

func TestVarAnswersShareNothing(t *testing.T) {
	b := roomy([]byte{1})
	first, second := Var(b, 2), Var(b, 3)
	if !bytes.Equal(first, []byte{1, 2}) || !bytes.Equal(second, []byte{1, 3}) {
		t.Error(first, second)
	}
	checkApart(t, "Var", first, second)
}

// P1.2: ReadVar.

func checkReadVar(t *testing.T, b []byte, n uint64, size int, e api.Errno) {
	t.Helper()
	gotN, gotSize, gotE := ReadVar(b)
	if gotN != n || gotSize != size || gotE != e {
		t.Errorf("ReadVar(%v) is %d, %d, %v, not %d, %d, %v", b, gotN, gotSize, gotE, n, size, e)
	}
}

func TestReadVarExamples(t *testing.T) {
	checkReadVar(t, []byte{172, 2, 9}, 300, 2, api.OK)
	checkReadVar(t, []byte{0}, 0, 1, api.OK)
	checkReadVar(t, []byte{0, 0}, 0, 1, api.OK)
	checkReadVar(t, []byte{0, 128}, 0, 1, api.OK)
	checkReadVar(t, []byte{1, 0}, 1, 1, api.OK)
	checkReadVar(t, []byte{127, 200}, 127, 1, api.OK)
	checkReadVar(t, []byte{128, 1}, 128, 2, api.OK)
	checkReadVar(t, []byte{128, 1, 0, 0}, 128, 2, api.OK)
	checkReadVar(t, []byte{128, 128, 1}, 16384, 3, api.OK)
}

// nine: nine bytes behind which a tenth must stand.
func nine(c byte, rest ...byte) []byte { return append(bytes.Repeat([]byte{c}, 9), rest...) }

func TestReadVarTenthByte(t *testing.T) {
	checkReadVar(t, nine(255, 1), math.MaxUint64, 10, api.OK)
	checkReadVar(t, nine(128, 1), 1<<63, 10, api.OK)
	checkReadVar(t, nine(128, 1, 0, 255), 1<<63, 10, api.OK)
	checkReadVar(t, nine(128), 0, 0, api.ErrShort)
	checkReadVar(t, nine(255), 0, 0, api.ErrShort)
	for c := 2; c < 256; c++ {
		checkReadVar(t, nine(255, byte(c)), 0, 0, api.ErrForm)
		checkReadVar(t, nine(128, byte(c), 1), 0, 0, api.ErrForm)
	}
	checkReadVar(t, nine(255, 0), 0, 0, api.ErrForm)
	checkReadVar(t, nine(128, 0, 1), 0, 0, api.ErrForm)
	checkReadVar(t, bytes.Repeat([]byte{255}, 1000), 0, 0, api.ErrForm)
}

func TestReadVarZeroBehindTheFirst(t *testing.T) {
	for length := 1; length <= 9; length++ {
		for _, c := range []byte{128, 129, 255} {
			front := bytes.Repeat([]byte{c}, length)
			checkReadVar(t, append(bytes.Clone(front), 0), 0, 0, api.ErrForm)
			checkReadVar(t, append(bytes.Clone(front), 0, 128), 0, 0, api.ErrForm)
		}
	}
}

func TestReadVarShort(t *testing.T) {
	checkReadVar(t, nil, 0, 0, api.ErrShort)
	checkReadVar(t, []byte{}, 0, 0, api.ErrShort)
	for length := 1; length <= 9; length++ {
		for _, c := range []byte{128, 172, 255} {
			b := bytes.Repeat([]byte{c}, length)
			checkReadVar(t, b, 0, 0, api.ErrShort)
			checkReadVar(t, append(bytes.Clone(b), 1)[:length], 0, 0, api.ErrShort) // a byte in the spare room isn't there
		}
	}
}

func TestReadVarKeepsWhatIsHandedIn(t *testing.T) {
	for _, text := range [][]byte{{}, {0}, {172, 2, 9}, {128}, {128, 0}, nine(255, 1), nine(255, 2)} {
		b := roomy(text)
		ReadVar(b)
		checkKept(t, "ReadVar", b, text)
	}
}

// P1.3.

func TestZigExamples(t *testing.T) {
	for i, n := range []int64{0, -1, 1, -2, 2, -3, 3} {
		if got := Zig(n); got != uint64(i) {
			t.Errorf("Zig(%d) is %d, not %d", n, got, i)
		}
		if got := Zag(uint64(i)); got != n {
			t.Errorf("Zag(%d) is %d, not %d", i, got, n)
		}
	}
}

func TestZigEnds(t *testing.T) {
	for n, want := range map[int64]uint64{
		math.MaxInt64:     math.MaxUint64 - 1,
		math.MinInt64:     math.MaxUint64,
		math.MaxInt64 - 1: math.MaxUint64 - 3,
		math.MinInt64 + 1: math.MaxUint64 - 2,
		1 << 62:           1 << 63,
		-1 << 62:          1<<63 - 1,
	} {
		if got := Zig(n); got != want {
			t.Errorf("Zig(%d) is %d, not %d", n, got, want)
		}
		if got := Zag(want); got != n {
			t.Errorf("Zag(%d) is %d, not %d", want, got, n)
		}
	}
}

func TestZagOfZig(t *testing.T) {
	for _, u := range numbers() {
		if got := Zig(Zag(u)); got != u {
			t.Errorf("Zig(Zag(%d)) is %d", u, got)
		}
		for _, n := range []int64{int64(u), -int64(u)} {
			if got := Zag(Zig(n)); got != n {
				t.Errorf("Zag(Zig(%d)) is %d", n, got)
			}
		}
	}
}

// P1.4.

func TestSumExamples(t *testing.T) {
	if got := Sum([]byte("123456789")); got != 3421780262 {
		t.Error("123456789:", got)
	}
	if got := Sum([]byte("a")); got != 0xE8B7BE43 {
		t.Error("a:", got)
	}
	if got := Sum([]byte{0}); got != 0xD202EF8D {
		t.Error("a byte 0:", got)
	}
}

func TestSumOfNothing(t *testing.T) {
	if Sum() != 0 || Sum(nil) != 0 || Sum([]byte{}) != 0 || Sum(nil, []byte{}, nil) != 0 {
		t.Error(Sum(), Sum(nil), Sum([]byte{}), Sum(nil, []byte{}, nil))
	}
}

// counted: n bytes that are all kinds of bytes.
func counted(n int) []byte {
	out := make([]byte, n)
	for i := range out {
		out[i] = byte(i*i*7 + i*31 + i>>8)
	}
	return out
}

func TestSumIsTheCrc(t *testing.T) {
	for c := range 256 {
		b := []byte{byte(c)}
		if got, want := Sum(b), crc32.ChecksumIEEE(b); got != want {
			t.Errorf("byte %d: %d, not %d", c, got, want)
		}
	}
	for _, n := range []int{2, 3, 4, 5, 8, 511, 512, 513, 8192} {
		b := counted(n)
		if got, want := Sum(b), crc32.ChecksumIEEE(b); got != want {
			t.Errorf("%d bytes: %d, not %d", n, got, want)
		}
	}
}

func TestSumParts(t *testing.T) {
	b := counted(40)
	want := crc32.ChecksumIEEE(b)
	for i := range len(b) + 1 {
		for j := i; j <= len(b); j++ {
			if got := Sum(b[:i], b[i:j], nil, b[j:]); got != want {
				t.Fatalf("parted at %d and %d: %d, not %d", i, j, got, want)
			}
		}
	}
	var bytesAlone [][]byte
	for i := range b {
		bytesAlone = append(bytesAlone, b[i:i+1])
	}
	if got := Sum(bytesAlone...); got != want {
		t.Error("byte by byte:", got)
	}
	if Sum([]byte("ab"), []byte("c")) == Sum([]byte("c"), []byte("ab")) {
		t.Error("the order of the parts is lost")
	}
}

func TestSumKeepsWhatIsHandedIn(t *testing.T) {
	texts := [][]byte{{1, 2, 3}, {}, []byte("abc")}
	parts := [][]byte{roomy(texts[0]), roomy(texts[1]), roomy(texts[2])}
	first := Sum(parts...)
	for i := range parts {
		checkKept(t, "Sum", parts[i], texts[i])
	}
	if again := Sum(parts...); again != first {
		t.Error("asked again:", again, first)
	}
}

// P1.5.

func TestVarIsReadAsItWas(t *testing.T) {
	behind := [][]byte{nil, {0}, {1}, {127}, {128}, {255}, {0, 0, 0}, {128, 128, 1}, bytes.Repeat([]byte{255}, 20), bytes.Repeat([]byte{0}, 20)}
	for _, n := range numbers() {
		text := Var(nil, n)
		for _, rest := range behind {
			checkReadVar(t, append(bytes.Clone(text), rest...), n, len(text), api.OK)
		}
	}
}

// What is read is just what Var lays: no other bytes stand for the number.
func TestWhatIsReadIsWhatVarLays(t *testing.T) {
	for a := range 256 {
		for b := range 256 {
			for _, c := range []byte{0, 1, 127, 128, 255} {
				text := []byte{byte(a), byte(b), c}
				n, size, e := ReadVar(text)
				if e == api.OK && !bytes.Equal(Var(nil, n), text[:size]) {
					t.Fatalf("%v is read as %d, which is laid as %v", text, n, Var(nil, n))
				}
			}
		}
	}
}

func TestVarTextsAreNoBeginnings(t *testing.T) {
	list := append(numbers(), 128*128*5+3, 128*5+3, 5, 3, 128*3+5)
	for n := range uint64(300) {
		list = append(list, n)
	}
	for _, a := range list {
		for _, b := range list {
			if a != b && bytes.HasPrefix(Var(nil, a), Var(nil, b)) {
				t.Fatalf("the text of %d begins with that of %d", a, b)
			}
		}
	}
}

func TestOneByteTurnedHasAnotherSum(t *testing.T) {
	for _, n := range []int{1, 2, 9, 64, 600} {
		text := counted(n)
		sum := Sum(text)
		for i := range text {
			for turn := 1; turn < 256; turn++ {
				text[i] ^= byte(turn)
				if Sum(text[:i], text[i:]) == sum {
					t.Fatalf("%d bytes, byte %d turned by %d: the Sum is as it was", n, i, turn)
				}
				text[i] ^= byte(turn)
			}
		}
	}
}
