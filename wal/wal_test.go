package wal

import (
	"bytes"
	"encoding/binary"
	"fmt"
	"hash/crc32"
	"math"
	"math/rand"
	"slices"
	"testing"

	"jetway/api"
	"jetway/disk"
)

const last = math.MaxUint32

// What stands on a disk, laid and read by the chapter's words alone.

// summed: 508 bytes, and their sum behind them.
func summed(b []byte) []byte {
	s := make([]byte, 508)
	copy(s, b)
	return binary.BigEndian.AppendUint32(s, crc32.ChecksumIEEE(s))
}

// headOf: the head of a generation.
func headOf(generation uint32) []byte {
	return summed(binary.BigEndian.AppendUint32([]byte{1}, generation))
}

// fields of a piece, right or not.
type fields struct {
	mark               byte
	generation, record uint32
	piece, pieces      uint16
	length             uint32
	data               []byte
}

// sector: with these fields, and a right sum.
func (f fields) sector() []byte {
	b := []byte{f.mark}
	b = binary.BigEndian.AppendUint32(b, f.generation)
	b = binary.BigEndian.AppendUint32(b, f.record)
	b = binary.BigEndian.AppendUint16(b, f.piece)
	b = binary.BigEndian.AppendUint16(b, f.pieces)
	b = binary.BigEndian.AppendUint32(b, f.length)
	return summed(append(b, f.data...))
}

// piecesOf: all pieces of a record.
func piecesOf(generation uint32, number int, record []byte) [][]byte {
	parts := slices.Collect(slices.Chunk(record, 491))
	if len(parts) == 0 {
		parts = [][]byte{nil}
	}
	var list [][]byte
	for i, p := range parts {
		f := fields{2, generation, uint32(number), uint16(i), uint16(len(parts)), uint32(len(record)), p}
		list = append(list, f.sector())
	}
	return list
}

// allPieces: those of many records.
func allPieces(generation uint32, records [][]byte) [][]byte {
	var list [][]byte
	for i, r := range records {
		list = append(list, piecesOf(generation, i, r)...)
	}
	return list
}

func rightSum(s []byte) bool {
	return binary.BigEndian.Uint32(s[508:]) == crc32.ChecksumIEEE(s[:508])
}

func noughts(b []byte) bool { return len(bytes.Trim(b, "\x00")) == 0 }

// rightHead: is it the head of a generation that belongs into this place?
func rightHead(s []byte, place int) bool {
	odd := int(s[4] & 1)
	return s[0] == 1 && odd == place && noughts(s[5:508]) && rightSum(s)
}

// comes: is a sector this piece of a record of so many bytes?
func comes(s []byte, generation uint32, number, piece int, length uint32) bool {
	be := binary.BigEndian
	count := max(1, (int(length)+490)/491)
	used := min(491, max(0, int(length)-491*piece))
	return s[0] == 2 && be.Uint32(s[1:]) == generation && be.Uint32(s[5:]) == uint32(number) &&
		be.Uint16(s[9:]) == uint16(piece) && be.Uint16(s[11:]) == uint16(count) &&
		be.Uint32(s[13:]) == length && length <= 8192 && noughts(s[17+used:508]) && rightSum(s)
}

// readArea: the records that stand in an area, sector by sector.
func readArea(area [][]byte, generation uint32) [][]byte {
	var records [][]byte
	var begun []byte
	var length uint32
	piece := 0
	for _, s := range area {
		if piece == 0 {
			length = binary.BigEndian.Uint32(s[13:])
		}
		if !comes(s, generation, len(records), piece, length) {
			break
		}
		begun = append(begun, s[17:508]...)
		piece++
		if 491*piece >= int(length) {
			records = append(records, begun[:length])
			begun, piece = nil, 0
		}
	}
	return records
}

// plain: what a log and its disk must be.
type plain struct {
	image      [][]byte
	generation uint32
	records    [][]byte
}

func (p plain) area() int { return (len(p.image) - 2) / 2 }

func (p plain) room() int { return p.area() - len(allPieces(0, p.records)) }

// first: where an area begins.
func (p plain) first(generation uint32) int { return 2 + int(generation%2)*p.area() }

func (p plain) clone() plain {
	p.image = slices.Clone(p.image)
	return p
}

// current: what the current generation of a disk is and has.
func (p plain) current() (generation uint32, records [][]byte) {
	found := false
	for place, s := range p.image[:2] {
		g := binary.BigEndian.Uint32(s[1:])
		if rightHead(s, place) && (!found || g > generation) {
			generation, found = g, true
		}
	}
	if found {
		from := p.first(generation)
		records = readArea(p.image[from:from+p.area()], generation)
	}
	return generation, records
}

// opened: what the log that is opened there begins, or ErrSpent.
func (p plain) opened() (plain, api.Errno) {
	generation, records := p.current()
	above := uint64(generation)
	for _, s := range p.image {
		if (s[0] == 1 || s[0] == 2) && rightSum(s) {
			above = max(above, uint64(binary.BigEndian.Uint32(s[1:])))
		}
	}
	for above++; above%2 == uint64(generation%2); above++ {
	}
	if above > last {
		return p, api.ErrSpent
	}
	p.generation, p.records = uint32(above), records
	return p, api.OK
}

// step: a write to a place, or a flush, if there are no bytes.
type step struct {
	place int
	bytes []byte
}

// beginning: what is done to begin the generation that p is in.
func (p plain) beginning() []step {
	steps := writes(p.first(p.generation), allPieces(p.generation, p.records))
	return append(steps, step{}, step{int(p.generation % 2), headOf(p.generation)}, step{})
}

// appending: what is done to append a record.
func (p plain) appending(record []byte) []step {
	at := p.first(p.generation) + p.area() - p.room()
	return append(writes(at, piecesOf(p.generation, len(p.records), record)), step{})
}

func writes(at int, sectors [][]byte) []step {
	var steps []step
	for i, s := range sectors {
		steps = append(steps, step{at + i, s})
	}
	return steps
}

// cut: what has lasted, and what waits, if the power goes off in steps[at].
func cut(image [][]byte, steps []step, at int) (lasts [][]byte, waiting []step) {
	lasts = slices.Clone(image)
	for i, s := range steps[:min(at+1, len(steps))] {
		switch {
		case s.bytes != nil:
			waiting = append(waiting, s)
		case i < at:
			lasts, waiting = kept(lasts, waiting, slices.Repeat([]bool{true}, len(waiting))), nil
		}
	}
	return lasts, waiting
}

// allDone: what lasts when nothing is cut.
func allDone(image [][]byte, steps []step) [][]byte {
	lasts, _ := cut(image, steps, len(steps))
	return lasts
}

// kept: what is there behind a restart.
func kept(lasts [][]byte, waiting []step, keep []bool) [][]byte {
	out := slices.Clone(lasts)
	for i, w := range waiting {
		if i < len(keep) && keep[i] {
			out[w.place] = w.bytes
		}
	}
	return out
}

// Help for the tests.

// blank: the image of a disk of n sectors on which nothing was laid.
func blank(n int) [][]byte {
	image := make([][]byte, n)
	for i := range image {
		image[i] = make([]byte, 512)
	}
	return image
}

// laid: an image of n sectors, with some of them laid.
func laid(n int, sectors map[int][]byte) [][]byte {
	image := blank(n)
	for place, s := range sectors {
		image[place] = s
	}
	return image
}

// diskOf: a disk with these sectors, nothing waiting.
func diskOf(t *testing.T, image [][]byte) *disk.Disk {
	t.Helper()
	d, e := disk.New(len(image))
	if e != api.OK {
		t.Fatalf("New(%d): %v", len(image), e)
	}
	for i, s := range image {
		if e := d.Write(i, s); e != api.OK {
			t.Fatalf("Write(%d): %v", i, e)
		}
	}
	if e := d.Flush(); e != api.OK {
		t.Fatalf("Flush: %v", e)
	}
	return d
}

// open opens a log where nothing stands against it.
func open(t *testing.T, d *disk.Disk) *Log {
	t.Helper()
	l, e := Open(d)
	if e != api.OK || l == nil {
		t.Fatalf("Open: %v, %v", l, e)
	}
	return l
}

// unopened tells if Open doesn't answer this error, and no log.
func unopened(t *testing.T, name string, d *disk.Disk, want api.Errno) {
	t.Helper()
	if l, e := Open(d); l != nil || e != want {
		t.Fatalf("%s: Open: %v, %v, not %v", name, l, e, want)
	}
}

// answers tells if a call hasn't answered this.
func answers(t *testing.T, name string, got, want api.Errno) {
	t.Helper()
	if got != want {
		t.Fatalf("%s: %v, not %v", name, got, want)
	}
}

func same(a, b [][]byte) bool { return slices.EqualFunc(a, b, bytes.Equal) }

// lengths: of records, for what a test tells.
func lengths(records [][]byte) []int {
	var list []int
	for _, r := range records {
		list = append(list, len(r))
	}
	return list
}

// has tells if a log hasn't these records, this room and this generation.
func has(t *testing.T, name string, l *Log, generation uint32, room int, records ...[]byte) {
	t.Helper()
	if got := l.Generation(); got != generation {
		t.Fatalf("%s: generation %d, not %d", name, got, generation)
	}
	if got := l.Room(); got != room {
		t.Fatalf("%s: room %d, not %d", name, got, room)
	}
	if got := l.Records(); !same(got, records) {
		t.Fatalf("%s: records of %v bytes, not %v, or with other bytes", name, lengths(got), lengths(records))
	}
}

// stands tells if a disk hasn't these sectors, or if writes wait. It must be on.
func stands(t *testing.T, name string, d *disk.Disk, image [][]byte) {
	t.Helper()
	if d.Waiting() != 0 || d.Down() {
		t.Fatalf("%s: %d writes wait, down: %v", name, d.Waiting(), d.Down())
	}
	for i, want := range image {
		got, e := d.Read(i)
		if e != api.OK || !bytes.Equal(got, want) {
			t.Fatalf("%s: sector %d is %v.., %v, not %v..", name, i, got[:min(20, len(got))], e, want[:20])
		}
	}
}

// is tells if a log or its disk isn't as the plain one.
func is(t *testing.T, name string, l *Log, d *disk.Disk, p plain) {
	t.Helper()
	has(t, name, l, p.generation, p.room(), p.records...)
	stands(t, name, d, p.image)
}

// opens opens a disk of this image, and tells if the log isn't as it must be.
func opens(t *testing.T, name string, image [][]byte) (*Log, *disk.Disk, plain) {
	t.Helper()
	d := diskOf(t, image)
	want, e := plain{image: image}.opened()
	if e != api.OK {
		unopened(t, name, d, e)
		stands(t, name, d, image)
		return nil, d, want
	}
	l := open(t, d)
	want.image = allDone(image, want.beginning())
	is(t, name, l, d, want)
	return l, d, want
}

// mixed: a record of n bytes, other for each seed, that ends with no nought.
func mixed(n int, seed byte) []byte {
	b := make([]byte, n)
	for i := range b {
		b[i] = byte(i)*7 ^ byte(i>>8)*31 ^ seed
	}
	if n > 0 {
		b[n-1] |= 1
	}
	return b
}

// subsets goes through every choice of n things, or through some drawn ones of many.
func subsets(n int, draw *rand.Rand, act func(keep []bool)) {
	const few = 5
	for bits := range 1 << min(n, few) {
		keep := make([]bool, n)
		for i := range keep {
			keep[i] = bits>>i&1 == 1
			if n > few {
				keep[i] = draw.Intn(2) == 1
			}
		}
		act(keep)
	}
	if n > few {
		act(nil)
		act(slices.Repeat([]bool{true}, n))
	}
}

// The chapter's examples.

func TestExamples(t *testing.T) {
	d := diskOf(t, blank(8))
	l := open(t, d)
	has(t, "Open", l, 1, 3)
	a := mixed(492, 'a')
	answers(t, "Append of 492", l.Append(a), api.OK)
	has(t, "Append of 492", l, 1, 1, a)
	answers(t, "Append of 492 again", l.Append(a), api.ErrFull)
	has(t, "Append of 492 again", l, 1, 1, a)
	answers(t, "Append of none", l.Append(nil), api.OK)
	has(t, "Append of none", l, 1, 0, a, nil)
	answers(t, "Renew", l.Renew([]byte("one"), []byte("two")), api.OK)
	has(t, "Renew", l, 2, 1, []byte("one"), []byte("two"))
}

// P5.1.

func TestNeed(t *testing.T) {
	for n, want := range map[int]int{
		math.MinInt: 1, -492: 1, -491: 1, -1: 1, 0: 1, 1: 1, 490: 1, 491: 1, 492: 2, 981: 2, 982: 2, 983: 3,
		8191: 17, 8192: 17, 8193: 17, 8347: 17, 8348: 18,
		math.MaxInt: math.MaxInt/491 + 1, math.MaxInt - 490: (math.MaxInt-490)/491 + 1,
	} {
		if got := Need(n); got != want {
			t.Errorf("Need(%d) is %d, not %d", n, got, want)
		}
	}
	want := 0
	for n := 1; n < 20000; n++ {
		if n%491 == 1 {
			want++
		}
		if got := Need(n); got != want {
			t.Fatalf("Need(%d) is %d, not %d", n, got, want)
		}
	}
}

func TestArea(t *testing.T) {
	for n, want := range map[int]int{
		math.MinInt: 0, math.MinInt + 1: 0, -4096: 0, -2: 0, -1: 0, 0: 0, 1: 0, 2: 0, 3: 0, 4: 1, 5: 1, 6: 2, 7: 2, 8: 3,
		4094: 2046, 4095: 2046, 4096: 2047, 4097: 2047, math.MaxInt: math.MaxInt/2 - 1,
	} {
		if got := Area(n); got != want {
			t.Errorf("Area(%d) is %d, not %d", n, got, want)
		}
	}
}

// P5.2.

func TestOpenRange(t *testing.T) {
	for n := 1; n < 4; n++ {
		d := diskOf(t, blank(n))
		answers(t, "Fuse", d.Fuse(0), api.OK)
		unopened(t, fmt.Sprint("on, ", n), d, api.ErrRange)
		stands(t, fmt.Sprint("on, ", n), d, blank(n))
		d.Cut()
		unopened(t, fmt.Sprint("down, ", n), d, api.ErrRange)
		spent := diskOf(t, slices.Repeat([][]byte{headOf(last)}, n))
		unopened(t, fmt.Sprint("spent, ", n), spent, api.ErrRange)
	}
}

func TestOpenDown(t *testing.T) {
	for _, n := range []int{4, 5, 8, 4096} {
		d := diskOf(t, blank(n))
		d.Cut()
		unopened(t, fmt.Sprint("blank, ", n), d, api.ErrDown)
		d.Restart()
		stands(t, fmt.Sprint("blank, ", n), d, blank(n))
	}
	d := diskOf(t, laid(4, map[int][]byte{1: headOf(last)}))
	d.Cut()
	unopened(t, "spent", d, api.ErrDown)
	d.Restart()
	unopened(t, "spent", d, api.ErrSpent)
}

func TestOpenBlank(t *testing.T) {
	for n, area := range map[int]int{4: 1, 5: 1, 6: 2, 7: 2, 8: 3, 9: 3, 4095: 2046, 4096: 2047} {
		l, d, _ := opens(t, fmt.Sprint(n), blank(n))
		has(t, fmt.Sprint(n), l, 1, area)
		stands(t, fmt.Sprint(n), d, laid(n, map[int][]byte{1: headOf(1)}))
	}
}

// TestOpenHeads: which generation is the current one, and which the next.
func TestOpenHeads(t *testing.T) {
	a, b := []byte("a"), []byte("b")
	shut := headOf(4)
	shut[511] ^= 1
	long := headOf(4)
	long = summed(append(long[:507], 1))
	piece := func(g uint32, record []byte) []byte { return piecesOf(g, 0, record)[0] }
	for name, c := range map[string]struct {
		sectors map[int][]byte
		next    uint32
		record  []byte
	}{
		"pieces of 0 without its head":    {map[int][]byte{2: piece(0, a)}, 1, nil},
		"generation 0 with its head":      {map[int][]byte{0: headOf(0), 2: piece(0, a)}, 1, a},
		"the even one is greater":         {map[int][]byte{0: headOf(4), 1: headOf(3), 2: piece(4, a), 5: piece(3, b)}, 5, a},
		"the odd one is greater":          {map[int][]byte{0: headOf(4), 1: headOf(5), 2: piece(4, a), 5: piece(5, b)}, 6, b},
		"far apart":                       {map[int][]byte{0: headOf(4), 1: headOf(901), 2: piece(4, a), 5: piece(901, b)}, 902, b},
		"each in the other's place":       {map[int][]byte{0: headOf(5), 1: headOf(4), 2: piece(4, a), 5: piece(5, b)}, 7, nil},
		"one in the other's place":        {map[int][]byte{0: headOf(5), 1: headOf(3), 5: piece(3, b)}, 6, b},
		"a head in an area":               {map[int][]byte{0: headOf(4), 2: piece(4, a), 7: headOf(6)}, 7, a},
		"a head with a wrong sum":         {map[int][]byte{0: shut, 1: headOf(3), 2: piece(4, a), 5: piece(3, b)}, 6, b},
		"a wrong head, no pieces of it":   {map[int][]byte{0: shut, 1: headOf(3), 5: piece(3, b)}, 4, b},
		"a head with a byte at its end":   {map[int][]byte{0: long, 1: headOf(3), 2: piece(4, a), 5: piece(3, b)}, 6, b},
		"a piece in a head's place":       {map[int][]byte{0: piece(6, a), 1: headOf(3), 5: piece(3, b)}, 8, b},
		"no head, pieces of others":       {map[int][]byte{2: piece(6, a), 5: piece(9, b)}, 11, nil},
		"no head, a piece of an odd one":  {map[int][]byte{3: piece(7, a)}, 9, nil},
		"no head, a piece of an even one": {map[int][]byte{3: piece(8, a)}, 9, nil},
		"the last sector, of no area":     {map[int][]byte{0: headOf(2), 2: piece(2, a), 8: piece(40, b)}, 41, a},
		"the last sector, as a head":      {map[int][]byte{0: headOf(2), 2: piece(2, a), 8: headOf(41)}, 43, a},
		"marks of neither kind": {map[int][]byte{
			0: headOf(2), 2: piece(2, a), 3: summed([]byte{3, 0, 0, 0, 77}), 4: summed([]byte{0, 0, 0, 0, 78}), 5: summed([]byte{255, 0, 0, 0, 79}),
		}, 3, a},
		"marks of both kinds": {map[int][]byte{
			0: headOf(2), 2: piece(2, a), 3: summed([]byte{1, 0, 1, 0, 77, 9}), 4: summed([]byte{2, 0, 1, 0, 78}),
		}, 0x1004f, a},
		"all four bytes of a generation": {map[int][]byte{0: headOf(0x01020304), 2: piece(0x01020304, a), 5: headOf(0x01000005)}, 0x01020305, a},
	} {
		image := laid(9, c.sectors)
		l, _, _ := opens(t, name, image)
		var records [][]byte
		if c.record != nil {
			records = [][]byte{c.record}
		}
		has(t, name, l, c.next, 3-len(records), records...)
	}
}

// TestOpenSpent: generations at the end of their range, on heads and elsewhere.
func TestOpenSpent(t *testing.T) {
	piece := func(g uint32) []byte { return piecesOf(g, 0, []byte("p"))[0] }
	for name, c := range map[string]struct {
		sectors map[int][]byte
		next    uint32 // 0: spent
	}{
		"a head of the last":                  {map[int][]byte{1: headOf(last)}, 0},
		"a head of the last, an old one":      {map[int][]byte{0: headOf(4), 1: headOf(last)}, 0},
		"a head of the last but one":          {map[int][]byte{0: headOf(last - 1)}, last},
		"a head of the last but two":          {map[int][]byte{1: headOf(last - 2)}, last - 1},
		"a head of the last but three":        {map[int][]byte{0: headOf(last - 3)}, last - 2},
		"a piece of the last":                 {map[int][]byte{0: headOf(4), 3: piece(last)}, 0},
		"a piece of the last, no head":        {map[int][]byte{3: piece(last)}, 0},
		"a piece of the last in the last":     {map[int][]byte{0: headOf(4), 8: piece(last)}, 0},
		"a piece of the last, a wrong sum":    {map[int][]byte{0: headOf(4), 3: append(piece(last)[:511], 0)}, 5},
		"a piece of the last but one, odd":    {map[int][]byte{1: headOf(5), 3: piece(last - 1)}, 0},
		"a piece of the last but one, even":   {map[int][]byte{0: headOf(4), 3: piece(last - 1)}, last},
		"a piece of the last but one, none":   {map[int][]byte{3: piece(last - 1)}, last},
		"a piece of the last but two, odd":    {map[int][]byte{1: headOf(5), 3: piece(last - 2)}, last - 1},
		"a piece of the last but two, even":   {map[int][]byte{0: headOf(4), 3: piece(last - 2)}, last},
		"the last's head in the other place":  {map[int][]byte{0: headOf(last)}, 0},
		"a head of the last in an area":       {map[int][]byte{0: headOf(4), 6: headOf(last)}, 0},
		"the last but one's in another place": {map[int][]byte{1: headOf(last - 1)}, last},
	} {
		l, _, p := opens(t, name, laid(9, c.sectors))
		switch {
		case c.next == 0 && l != nil:
			t.Errorf("%s: opened as %d", name, p.generation)
		case c.next != 0 && l == nil:
			t.Errorf("%s: not opened", name)
		case c.next != 0:
			has(t, name, l, c.next, 3)
		}
	}
}

// TestOpenRecords: which pieces make records, with all sums right.
func TestOpenRecords(t *testing.T) {
	const g, area = 6, 20
	f := func(record uint32, piece, pieces uint16, length uint32, data []byte) []byte {
		return fields{2, g, record, piece, pieces, length, data}.sector()
	}
	a, two, three := []byte("a"), mixed(492, 2), mixed(1473, 3)
	p0, p1, p2 := piecesOf(g, 0, a), piecesOf(g, 1, two), piecesOf(g, 2, three)
	most := mixed(8192, 9)
	row := func(lists ...[][]byte) [][]byte { return slices.Concat(lists...) }
	one := func(s []byte) [][]byte { return [][]byte{s} }
	full := allPieces(g, [][]byte{most, three})
	for name, c := range map[string]struct {
		sectors [][]byte
		want    [][]byte
	}{
		"nothing":                       {nil, nil},
		"three records":                 {row(p0, p1, p2), [][]byte{a, two, three}},
		"records that fill it":          {full, [][]byte{most, three}},
		"one piece missing at the end":  {row(p0, p1, p2[:2]), [][]byte{a, two}},
		"the middle piece missing":      {row(p0, p1, p2[:1], p2[2:]), [][]byte{a, two}},
		"the first piece missing":       {row(p0, p1, p2[1:]), [][]byte{a, two}},
		"two pieces the other way":      {row(p0, one(p1[1]), one(p1[0]), p2), [][]byte{a}},
		"a piece twice":                 {row(p0, one(p1[0]), p1, p2), [][]byte{a}},
		"a record left out":             {row(p0, p2), [][]byte{a}},
		"a record twice":                {row(p0, p0, p1), [][]byte{a}},
		"a hole between":                {row(p0, one(make([]byte, 512)), p1), [][]byte{a}},
		"no room for the last pieces":   {row(one(f(0, 0, 1, 1, a)), piecesOf(g, 1, most), one(f(2, 0, 3, 1473, three[:491])), one(f(2, 1, 3, 1473, three[491:982]))), [][]byte{a, most}},
		"pieces of a younger one":       {row(p0, piecesOf(g+2, 1, two)), [][]byte{a}},
		"pieces of an older one":        {row(p0, piecesOf(g-2, 1, two)), [][]byte{a}},
		"pieces of the other area's":    {row(p0, piecesOf(g-1, 1, two)), [][]byte{a}},
		"a last piece of an older one":  {row(p0, p1[:1], piecesOf(g-2, 1, two)[1:]), [][]byte{a}},
		"a last piece of another":       {row(p0, p1[:1], piecesOf(g, 2, two)[1:]), [][]byte{a}},
		"a last piece of one longer":    {row(p0, p1[:1], one(f(1, 1, 2, 493, []byte{1, 1}))), [][]byte{a}},
		"a first piece of one longer":   {row(p0, one(f(1, 0, 2, 493, two[:491])), p1[1:]), [][]byte{a}},
		"more pieces than it needs":     {row(one(f(0, 0, 2, 491, two[:491])), one(f(0, 1, 2, 491, nil))), nil},
		"fewer pieces than it needs":    {row(one(f(0, 0, 1, 492, two[:491])), one(f(0, 1, 1, 492, two[491:]))), nil},
		"no piece of an empty one":      {one(f(0, 0, 0, 0, nil)), nil},
		"an empty one":                  {one(f(0, 0, 1, 0, nil)), [][]byte{nil}},
		"an empty one with a byte":      {one(f(0, 0, 1, 0, a)), nil},
		"a byte behind the last":        {one(f(0, 0, 1, 1, []byte("ab"))), nil},
		"a byte at the end of the last": {one(f(0, 0, 1, 1, append(mixed(490, 0), 1))), nil},
		"a byte behind a second piece":  {row(one(f(0, 0, 2, 492, two[:491])), one(f(0, 1, 2, 492, []byte{two[491], 1}))), nil},
		"a record of 491":               {one(f(0, 0, 1, 491, two[:491])), [][]byte{two[:491]}},
		"a record of 8193":              {piecesOf(g, 0, mixed(8193, 5)), nil},
		"a record of 8347":              {piecesOf(g, 0, mixed(8347, 5)), nil},
		"a record of 2^32 - 1":          {one(f(0, 0, 1, last, nil)), nil},
		"a record of 2^31":              {one(f(0, 0, 1, 1<<31, nil)), nil},
		"the greatest numbers":          {one(f(last, 65535, 65535, last, mixed(491, 1))), nil},
		"another mark":                  {one(fields{1, g, 0, 0, 1, 1, a}.sector()), nil},
		"the mark 0":                    {one(fields{0, g, 0, 0, 1, 1, a}.sector()), nil},
		"the mark 3":                    {one(fields{3, g, 0, 0, 1, 1, a}.sector()), nil},
		"the first has the number 1":    {p1, nil},
		"the head's sector again":       {row(p0, one(headOf(g))), [][]byte{a}},
	} {
		image := laid(2+2*area, map[int][]byte{0: headOf(g), 1: headOf(g - 1)})
		// What stands in the other area looks like the current generation's, but isn't in its place.
		copy(image[2+area:], row(p0, p1, p2))
		copy(image[2:2+area], c.sectors)
		_, _, p := opens(t, name, image)
		if !same(p.records, c.want) {
			t.Errorf("%s: records of %v bytes are asked for, not %v", name, lengths(p.records), lengths(c.want))
		}
	}
}

// TestOpenShortArea: a record that would have room in no area counts for nothing, even where its pieces go on in the other one.
func TestOpenShortArea(t *testing.T) {
	long := mixed(1473, 8)
	image := laid(6, map[int][]byte{0: headOf(2)})
	copy(image[2:], piecesOf(2, 0, long))
	l, _, _ := opens(t, "over the end of area 0", image)
	has(t, "over the end of area 0", l, 3, 2)
	image = laid(7, map[int][]byte{1: headOf(3)})
	copy(image[4:], piecesOf(3, 0, long))
	l, _, _ = opens(t, "over the end of area 1", image)
	has(t, "over the end of area 1", l, 4, 2)
}

// TestOpenTurned: each byte of a disk turned, one by one.
func TestOpenTurned(t *testing.T) {
	a, b, c := []byte("ab"), mixed(500, 'b'), []byte("c")
	image := laid(10, map[int][]byte{0: headOf(4), 1: headOf(3)})
	copy(image[2:], allPieces(4, [][]byte{a, b, c}))
	copy(image[6:], allPieces(3, [][]byte{c, b}))
	found := map[int][][]byte{0: {c, b}, 2: nil, 3: {a}, 4: {a}, 5: {a, b}}
	draw := rand.New(rand.NewSource(5))
	for place := range image[:6] {
		want, ok := found[place]
		if !ok {
			want = [][]byte{a, b, c}
		}
		for i := range 512 {
			turned := slices.Clone(image)
			turned[place] = slices.Clone(image[place])
			turned[place][i] ^= byte(1 + draw.Intn(255))
			name := fmt.Sprintf("byte %d of sector %d", i, place)
			_, _, p := opens(t, name, turned)
			if !same(p.records, want) {
				t.Fatalf("%s: records of %v bytes are asked for", name, lengths(p.records))
			}
		}
	}
}

// pool: sectors of all kinds that a disk of three generations might have.
func pool() [][]byte {
	list := [][]byte{make([]byte, 512)}
	for g := range uint32(5) {
		list = append(list, headOf(g))
		for number := range 3 {
			list = append(list, piecesOf(g, number, mixed(3*number, 1))...)
			list = append(list, piecesOf(g, number, mixed(492, 1))...)
		}
	}
	shut := slices.Clone(list[1])
	shut[300]++
	return append(list, shut, headOf(last), headOf(last-1), headOf(last-2))
}

// TestOpenDrawn: disks on which such sectors stand wherever they may.
func TestOpenDrawn(t *testing.T) {
	sectors := pool()
	draw := rand.New(rand.NewSource(52))
	seen := map[int]int{}
	for range 4000 {
		image := blank(4 + draw.Intn(6))
		for i := range image {
			image[i] = sectors[draw.Intn(len(sectors)-3)]
		}
		if draw.Intn(10) == 0 {
			image[draw.Intn(len(image))] = sectors[len(sectors)-1-draw.Intn(3)]
		}
		g := uint32(draw.Intn(5))
		if draw.Intn(4) > 0 {
			image[g%2] = headOf(g)
			copy(image[plain{image: image}.first(g):], allPieces(g, [][]byte{nil, mixed(492, 1), nil}[:draw.Intn(4)]))
		}
		_, _, p := opens(t, "drawn", image)
		seen[len(p.records)]++
	}
	for n := range 3 {
		if seen[n] < 20 {
			t.Errorf("only %d disks of %d records were drawn", seen[n], n)
		}
	}
}

// orderly tells if a call doesn't do just these steps, in their order: it is cut in each of them, and what is then there must be what was written up to that one, whatever is kept.
func orderly(t *testing.T, name string, d *disk.Disk, image [][]byte, steps []step, act func(*disk.Disk) api.Errno) {
	t.Helper()
	draw := rand.New(rand.NewSource(53))
	for at := range steps {
		lasts, waiting := cut(image, steps, at)
		subsets(len(waiting), draw, func(keep []bool) {
			own := d.Clone()
			answers(t, name, own.Fuse(at), api.OK)
			answers(t, name, act(own), api.ErrDown)
			if own.Waiting() != len(waiting) {
				t.Fatalf("%s, cut in step %d: %d writes wait, not %d", name, at, own.Waiting(), len(waiting))
			}
			own.Restart(keep...)
			stands(t, fmt.Sprintf("%s, cut in step %d, kept %v", name, at, keep), own, kept(lasts, waiting, keep))
		})
	}
	own := d.Clone()
	answers(t, name, own.Fuse(len(steps)), api.OK)
	answers(t, name, act(own), api.OK)
	stands(t, name, own, allDone(image, steps))
	answers(t, name+": one step more", own.Write(0, make([]byte, 512)), api.ErrDown)
}

func TestOpenOrder(t *testing.T) {
	for name, records := range map[string][][]byte{
		"none": nil, "one": {[]byte("a")}, "two": {mixed(492, 1), nil}, "many": {nil, mixed(2000, 3), mixed(491, 4)},
	} {
		for g := range uint32(4) {
			image := laid(16, map[int][]byte{int(g % 2): headOf(g), 15: headOf(3)})
			copy(image[plain{image: image}.first(g):], allPieces(g, records))
			p, _ := plain{image: image}.opened()
			orderly(t, name, diskOf(t, image), image, p.beginning(), func(d *disk.Disk) api.Errno {
				l, e := Open(d)
				if (l == nil) != (e != api.OK) {
					t.Fatalf("%v beside %v", l, e)
				}
				return e
			})
		}
	}
}

// P5.3.

// begun: a log with these records on a disk of n sectors, and what it must be.
func begun(t *testing.T, n int, records ...[]byte) (*Log, *disk.Disk, plain) {
	t.Helper()
	l, d, p := opens(t, "blank", blank(n))
	p.renew(records)
	answers(t, "Renew", l.Renew(records...), api.OK)
	is(t, "Renew", l, d, p)
	return l, d, p
}

// renew: as a log does it.
func (p *plain) renew(records [][]byte) {
	p.generation++
	p.records = slices.Clone(records)
	p.image = allDone(p.image, p.beginning())
}

// append: as a log does it.
func (p *plain) append(record []byte) {
	p.image = allDone(p.image, p.appending(record))
	p.records = append(slices.Clone(p.records), record)
}

func TestAppendBytes(t *testing.T) {
	for _, size := range []int{100, 101} {
		l, d, p := opens(t, "blank", blank(size))
		for turn := range 3 {
			for i, n := range []int{0, 1, 3, 490, 491, 492, 981, 982, 983, 8191, 8192, 0} {
				record := mixed(n, byte(i+turn))
				if i == 0 {
					record = nil
				}
				name := fmt.Sprintf("record %d of %d bytes", i, n)
				answers(t, name, l.Append(record), api.OK)
				p.append(record)
				is(t, name, l, d, p)
			}
			l = open(t, d)
			p.renew(p.records)
			is(t, "opened", l, d, p)
			answers(t, "Renew", l.Renew(), api.OK)
			p.renew(nil)
			is(t, "renewed", l, d, p)
		}
	}
}

// TestAppendFull: a log that is just full, and one sector over.
func TestAppendFull(t *testing.T) {
	for _, c := range []struct {
		size int
		over []byte
		fits []byte
	}{
		{4, mixed(492, 1), mixed(491, 1)},
		{5, mixed(492, 1), nil},
		{6, mixed(983, 1), mixed(982, 1)},
		{34, mixed(8192, 1), mixed(7856, 1)},
		{35, mixed(8192, 1), mixed(7856, 1)},
		{36, nil, mixed(8192, 1)},
	} {
		name := fmt.Sprint("a disk of ", c.size)
		l, d, p := opens(t, name, blank(c.size))
		if c.over != nil {
			answers(t, name, l.Append(c.over), api.ErrFull)
			is(t, name, l, d, p)
		}
		answers(t, name, l.Append(c.fits), api.OK)
		p.append(c.fits)
		is(t, name, l, d, p)
		has(t, name, l, 1, 0, c.fits)
		for _, n := range []int{0, 1, 491, 8192} {
			answers(t, name, l.Append(make([]byte, n)), api.ErrFull)
		}
		answers(t, name, l.Append(nil), api.ErrFull)
		is(t, name, l, d, p)
		is(t, name, open(t, d), d, func() plain { p.renew(p.records); return p }())
	}
}

// TestAppendMost: as many records as the greatest disk takes.
func TestAppendMost(t *testing.T) {
	l, d, p := opens(t, "4096", blank(4096))
	for i := range 2047 {
		r := []byte{byte(i), byte(i >> 8)}
		if e := l.Append(r); e != api.OK || l.Room() != 2046-i {
			t.Fatalf("record %d: %v, room %d", i, e, l.Room())
		}
		p.records = append(p.records, r)
	}
	answers(t, "one more", l.Append(nil), api.ErrFull)
	answers(t, "one more by Renew", l.Renew(append(slices.Clone(p.records), nil)...), api.ErrFull)
	copy(p.image[p.first(1):], allPieces(1, p.records))
	is(t, "full", l, d, p)
	l = open(t, d)
	p.renew(p.records)
	is(t, "opened", l, d, p)
	answers(t, "Renew", l.Renew(p.records...), api.OK)
	p.renew(p.records)
	is(t, "renewed", l, d, p)
}

// TestAppendErrors: which error comes first, and that a refused call has done nothing.
func TestAppendErrors(t *testing.T) {
	l, d, p := begun(t, 6, nil, nil)
	answers(t, "Fuse", d.Fuse(0), api.OK)
	for name, c := range map[string]struct {
		b    []byte
		want api.Errno
	}{
		"8193":  {make([]byte, 8193), api.ErrSize},
		"2^20":  {make([]byte, 1<<20), api.ErrSize},
		"8192":  {make([]byte, 8192), api.ErrFull},
		"one":   {[]byte{1}, api.ErrFull},
		"empty": {[]byte{}, api.ErrFull},
		"nil":   {nil, api.ErrFull},
	} {
		answers(t, "full, "+name, l.Append(c.b), c.want)
		is(t, "full, "+name, l, d, p)
	}
	d.Cut()
	answers(t, "full and down", l.Append(nil), api.ErrFull)
	answers(t, "too long, full and down", l.Append(make([]byte, 8193)), api.ErrSize)
	has(t, "full and down", l, 2, 0, nil, nil)

	l, d, _ = begun(t, 40, nil)
	d.Cut()
	answers(t, "too long and down", l.Append(make([]byte, 8193)), api.ErrSize)
	answers(t, "down", l.Append(make([]byte, 8192)), api.ErrDown)
	answers(t, "too long and closed", l.Append(make([]byte, 8193)), api.ErrState)
	answers(t, "closed", l.Append(nil), api.ErrState)
	d.Restart()
	answers(t, "closed, on again", l.Append(nil), api.ErrState)
	has(t, "closed", l, 2, 18, nil)
}

func TestAppendOrder(t *testing.T) {
	for _, held := range [][][]byte{nil, {nil}, {mixed(492, 1), []byte("x")}} {
		for _, n := range []int{0, 1, 491, 492, 983, 3000} {
			_, d, p := begun(t, 30, held...)
			image := p.image
			p.renew(held)
			record := mixed(n, 6)
			orderly(t, fmt.Sprint(n), d, image, append(p.beginning(), p.appending(record)...), func(d *disk.Disk) api.Errno {
				l, e := Open(d)
				if e != api.OK {
					return e
				}
				return l.Append(record)
			})
		}
	}
}

func TestRenewBytes(t *testing.T) {
	l, d, p := opens(t, "blank", blank(64))
	for turn := range 3 {
		for i, sizes := range [][]int{{}, {0}, {3, 3}, {491, 492}, {8192}, {0, 983, 8191, 1, 0, 1964, 0, 0}, {8192, 5401, 1472}} {
			var records [][]byte
			for k, n := range sizes {
				records = append(records, mixed(n, byte(i+k+turn)))
			}
			name := fmt.Sprintf("turn %d: records of %v", turn, sizes)
			answers(t, name, l.Renew(records...), api.OK)
			p.renew(records)
			is(t, name, l, d, p)
			if p.room() > 0 {
				answers(t, name, l.Append([]byte("more")), api.OK)
				p.append([]byte("more"))
				is(t, name+", and one more", l, d, p)
			}
		}
	}
	if p.generation != 22 {
		t.Fatalf("generation %d", p.generation)
	}
}

// TestRenewErrors: which error comes first, and that a refused call has done nothing.
func TestRenewErrors(t *testing.T) {
	long, nine := make([]byte, 8193), slices.Repeat([][]byte{nil}, 9)
	at := func(g uint32) (*Log, *disk.Disk, plain) {
		image := laid(18, map[int][]byte{0: headOf(g - 1)})
		copy(image[2:], piecesOf(g-1, 0, []byte("held")))
		return opens(t, "at", image)
	}
	for _, g := range []uint32{3, last} {
		l, d, p := at(g)
		answers(t, "Fuse", d.Fuse(0), api.OK)
		for name, c := range map[string]struct {
			list [][]byte
			want api.Errno
		}{
			"one too long":              {[][]byte{long}, api.ErrSize},
			"the last too long":         {[][]byte{nil, nil, long}, api.ErrSize},
			"the first too long":        {[][]byte{long, nil}, api.ErrSize},
			"too long behind too many":  {append(slices.Clone(nine), long), api.ErrSize},
			"one over":                  {nine, api.ErrFull},
			"one over, in two":          {[][]byte{mixed(491*7+1, 1), nil}, api.ErrFull},
			"far over":                  {[][]byte{make([]byte, 8192)}, api.ErrFull},
			"far over, with many of it": {slices.Repeat([][]byte{make([]byte, 8192)}, 100000), api.ErrFull},
		} {
			answers(t, name, l.Renew(c.list...), c.want)
			is(t, name, l, d, p)
		}
		if g == last {
			answers(t, "spent", l.Renew(), api.ErrSpent)
			answers(t, "spent", l.Renew(nine[:8]...), api.ErrSpent)
			is(t, "spent", l, d, p)
		}
		d.Cut()
		answers(t, "too long and down", l.Renew(long), api.ErrSize)
		answers(t, "too many and down", l.Renew(nine...), api.ErrFull)
		if g == last {
			answers(t, "spent and down", l.Renew(), api.ErrSpent)
		} else {
			answers(t, "down", l.Renew(), api.ErrDown)
			answers(t, "closed", l.Renew(), api.ErrState)
			answers(t, "too long and closed", l.Renew(long), api.ErrState)
			answers(t, "too many and closed", l.Renew(nine...), api.ErrState)
		}
		has(t, "down", l, g, 7, []byte("held"))
	}
}

// TestRenewSpent: the last generations are begun as any other one.
func TestRenewSpent(t *testing.T) {
	l, d, p := opens(t, "the last but three", laid(8, map[int][]byte{0: headOf(last - 3)}))
	for p.generation < last {
		answers(t, "Renew", l.Renew([]byte("r"), nil), api.OK)
		p.renew([][]byte{[]byte("r"), nil})
		is(t, "Renew", l, d, p)
	}
	answers(t, "Renew at the last", l.Renew(nil), api.ErrSpent)
	is(t, "Renew at the last", l, d, p)
	answers(t, "Append at the last", l.Append([]byte("s")), api.OK)
	p.append([]byte("s"))
	is(t, "Append at the last", l, d, p)
	unopened(t, "the last", d, api.ErrSpent)
	stands(t, "the last", d, p.image)
}

func TestRenewOrder(t *testing.T) {
	for _, held := range [][][]byte{nil, {mixed(492, 1), []byte("x")}} {
		for name, records := range map[string][][]byte{
			"none": nil, "one": {nil}, "two": {mixed(3, 1), mixed(983, 2)}, "many": {mixed(2000, 1), nil, nil, mixed(492, 2)},
		} {
			_, d, p := begun(t, 30, held...)
			image := p.image
			p.renew(held)
			steps := p.beginning()
			after := p.clone()
			after.renew(records)
			orderly(t, name, d, image, append(steps, after.beginning()...), func(d *disk.Disk) api.Errno {
				l, e := Open(d)
				if e != api.OK {
					return e
				}
				return l.Renew(records...)
			})
		}
	}
}

// P5.4.

// TestClosed: a log that has answered ErrDown, cut in every step, tells what it told ahead of that, for good.
func TestClosed(t *testing.T) {
	held := [][]byte{[]byte("one"), mixed(600, 2)}
	calls := map[string]func(*Log) api.Errno{
		"Append": func(l *Log) api.Errno { return l.Append(mixed(800, 3)) },
		"Renew":  func(l *Log) api.Errno { return l.Renew([]byte("x"), nil) },
		"none":   func(l *Log) api.Errno { return l.Renew() },
	}
	for name, call := range calls {
		for at := 0; ; at++ {
			l, d, _ := begun(t, 20, held...)
			answers(t, name, d.Fuse(at), api.OK)
			if e := call(l); e == api.OK {
				if at < 3 {
					t.Errorf("%s takes %d steps only", name, at)
				}
				break
			} else if e != api.ErrDown {
				t.Fatalf("%s, cut at %d: %v", name, at, e)
			}
			for _, on := range []bool{false, true} {
				if on {
					d.Restart(true, true, true)
				}
				has(t, name, l, 2, 6, held...)
				for other, again := range calls {
					answers(t, name+", then "+other, again(l), api.ErrState)
				}
				answers(t, name+", then too long", l.Append(make([]byte, 8193)), api.ErrState)
				answers(t, name+", then too long", l.Renew(make([]byte, 8193)), api.ErrState)
				has(t, name, l, 2, 6, held...)
			}
			if d.Waiting() != 0 {
				t.Errorf("%s: a closed log writes", name)
			}
		}
	}
}

// roomy: a record with spare room behind it, and all of that memory.
func roomy(n int, seed byte) (record, all []byte) {
	all = mixed(n+40, seed)
	return all[:n], all
}

// TestGiven: what is handed in stays as it was, and may be changed afterwards.
func TestGiven(t *testing.T) {
	l, d, p := opens(t, "blank", blank(30))
	for _, n := range []int{0, 1, 491, 492, 1000} {
		record, all := roomy(n, 3)
		was := slices.Clone(all)
		answers(t, "Append", l.Append(record), api.OK)
		p.append(was[:n])
		if !bytes.Equal(all, was) {
			t.Fatalf("Append has changed what it was given, of %d bytes", n)
		}
		for i := range all {
			all[i] ^= 0x55
		}
		is(t, "Append", l, d, p)
	}
	for _, n := range []int{0, 1, 491, 492, 1000} {
		record, all := roomy(n, 4)
		was := slices.Clone(all)
		list := [][]byte{record, nil, record, []byte("spare")}
		answers(t, "Renew", l.Renew(list[:3]...), api.OK)
		p.renew([][]byte{was[:n], nil, was[:n]})
		if !bytes.Equal(all, was) || !same(list, [][]byte{record, nil, record, []byte("spare")}) {
			t.Fatalf("Renew has changed what it was given, of %d bytes", n)
		}
		for i := range all {
			all[i] ^= 0x55
		}
		list[0], list[1], list[2] = []byte("other"), []byte("other"), nil
		is(t, "Renew", l, d, p)
		answers(t, "Append", l.Append(nil), api.OK)
		if string(list[3]) != "spare" {
			t.Fatalf("Append has changed what Renew was given")
		}
		p.append(nil)
	}
	is(t, "at the end", l, d, p)
}

// spoil changes a list, its records, and all their spare room.
func spoil(list [][]byte) {
	for i, r := range list {
		r = r[:cap(r)]
		for k := range r {
			r[k] ^= 0xff
		}
		list[i] = []byte("spoilt")
	}
	list = list[:cap(list)]
	for i := range list {
		list[i] = []byte("spoilt")
	}
}

// TestAnswered: what Records gives is the caller's own, however the log has come by it.
func TestAnswered(t *testing.T) {
	held := [][]byte{[]byte("one"), nil, mixed(491, 1), mixed(600, 2)}
	l, d, p := begun(t, 40, held...)
	check := func(name string) {
		t.Helper()
		first, second := l.Records(), l.Records()
		spoil(first)
		if !same(second, p.records) {
			t.Fatalf("%s: two answers share memory", name)
		}
		for i := range second {
			spoil(second[i : i+1 : i+1])
			if !same(second[i+1:], p.records[i+1:]) {
				t.Fatalf("%s: record %d shares memory with another", name, i)
			}
		}
		is(t, name, l, d, p)
	}
	check("renewed")
	answers(t, "Append", l.Append(mixed(700, 5)), api.OK)
	p.append(mixed(700, 5))
	check("appended")
	l = open(t, d)
	p.renew(p.records)
	check("opened")
	answers(t, "Append", l.Append([]byte("x")), api.OK)
	p.append([]byte("x"))
	check("opened and appended")
	taken := l.Records()
	answers(t, "Renew", l.Renew(taken...), api.OK)
	spoil(taken)
	p.renew(p.records)
	check("renewed with its own")
}

// TestApart: two logs on two disks know nothing of each other.
func TestApart(t *testing.T) {
	l, d, p := begun(t, 12, []byte("both"))
	other := d.Clone()
	m := open(t, other)
	q := p.clone()
	q.renew(q.records)
	answers(t, "Append", l.Append([]byte("l")), api.OK)
	p.append([]byte("l"))
	answers(t, "Append", m.Append(mixed(800, 3)), api.OK)
	q.append(mixed(800, 3))
	is(t, "one", l, d, p)
	is(t, "the other", m, other, q)
}

// P5.5.

// behind opens what a crash has left, is cut itself in every step and with every choice of what is kept, and tells if the records are neither of these.
func behind(t *testing.T, name string, d *disk.Disk, draw *rand.Rand, ahead, after [][]byte, depth int) {
	t.Helper()
	found := open(t, d.Clone()).Records()
	if !same(found, ahead) && !same(found, after) {
		t.Fatalf("%s: records of %v bytes, neither %v nor %v", name, lengths(found), lengths(ahead), lengths(after))
	}
	if depth == 0 {
		return
	}
	for at := 0; ; at++ {
		own := d.Clone()
		answers(t, name, own.Fuse(at), api.OK)
		if _, e := Open(own); e == api.OK {
			break
		}
		subsets(own.Waiting(), draw, func(keep []bool) {
			again := own.Clone()
			again.Restart(keep...)
			// The first opening has found just one of the two, and so must each one behind it.
			behind(t, name+", cut again", again, draw, found, found, depth-1)
		})
	}
}

func TestCrash(t *testing.T) {
	draw := rand.New(rand.NewSource(55))
	for _, held := range [][][]byte{nil, {[]byte("one")}, {nil, mixed(492, 1)}} {
		for name, c := range map[string]struct {
			call  func(*Log) api.Errno
			after [][]byte
		}{
			"Append of none": {func(l *Log) api.Errno { return l.Append(nil) }, append(slices.Clone(held), nil)},
			"Append of 983":  {func(l *Log) api.Errno { return l.Append(mixed(983, 4)) }, append(slices.Clone(held), mixed(983, 4))},
			"Renew of none":  {func(l *Log) api.Errno { return l.Renew() }, nil},
			"Renew of two":   {func(l *Log) api.Errno { return l.Renew(nil, mixed(492, 5)) }, [][]byte{nil, mixed(492, 5)}},
		} {
			for at := 0; ; at++ {
				l, d, _ := begun(t, 16, held...)
				answers(t, name, d.Fuse(at), api.OK)
				e := c.call(l)
				subsets(d.Waiting(), draw, func(keep []bool) {
					own := d.Clone()
					own.Restart(keep...)
					ahead := held
					if e == api.OK {
						ahead = c.after
					}
					behind(t, fmt.Sprintf("%s, cut in step %d, kept %v", name, at, keep), own, draw, ahead, c.after, 1)
				})
				if e == api.OK {
					break
				}
			}
		}
	}
}

// TestCrashTwice: the power goes off three times while the log is opened.
func TestCrashTwice(t *testing.T) {
	draw := rand.New(rand.NewSource(56))
	held := [][]byte{[]byte("one")}
	for at := range 3 {
		l, d, _ := begun(t, 6, held...)
		answers(t, "Fuse", d.Fuse(at), api.OK)
		e := l.Append([]byte("two"))
		after := [][]byte{[]byte("one"), []byte("two")}
		ahead := held
		if e == api.OK {
			ahead = after
		}
		subsets(d.Waiting(), draw, func(keep []bool) {
			own := d.Clone()
			own.Restart(keep...)
			behind(t, fmt.Sprint("cut in step ", at), own, draw, ahead, after, 2)
		})
	}
}

// row: a log in a long row of calls, and what it must be.
type row struct {
	t    *testing.T
	draw *rand.Rand
	disk *disk.Disk
	log  *Log
	want plain
}

// draws a list of records, now and then one that is too long or too many.
func (r *row) records() [][]byte {
	var list [][]byte
	for range r.draw.Intn(5) {
		list = append(list, r.record())
	}
	return list
}

func (r *row) record() []byte {
	sizes := []int{0, 0, 1, 2, 300, 490, 491, 491, 492, 700, 982, 983, 8192, 8193}
	return mixed(sizes[r.draw.Intn(len(sizes))], byte(r.draw.Intn(256)))
}

// call draws one: how it is done, its steps, what it must answer, and what the log is then.
func (r *row) call() (act func() api.Errno, steps []step, want api.Errno, then plain) {
	then = r.want.clone()
	switch r.draw.Intn(8) {
	case 0:
		then, _ = then.opened()
		act = func() api.Errno {
			l, e := Open(r.disk)
			if e == api.OK {
				r.log = l
			}
			return e
		}
		return act, then.beginning(), api.OK, then
	case 1, 2:
		list := r.records()
		act = func() api.Errno { return r.log.Renew(list...) }
		switch {
		case slices.ContainsFunc(list, func(b []byte) bool { return len(b) > 8192 }):
			return act, nil, api.ErrSize, then
		case len(allPieces(0, list)) > then.area():
			return act, nil, api.ErrFull, then
		}
		then.generation++
		then.records = list
		return act, then.beginning(), api.OK, then
	}
	record := r.record()
	act = func() api.Errno { return r.log.Append(record) }
	switch {
	case len(record) > 8192:
		return act, nil, api.ErrSize, then
	case len(piecesOf(0, 0, record)) > then.room():
		return act, nil, api.ErrFull, then
	}
	steps = then.appending(record)
	then.records = append(slices.Clone(then.records), record)
	return act, steps, api.OK, then
}

// crash restarts the disk with what is drawn, and opens it, till that is done.
func (r *row) crash(lasts [][]byte, waiting []step, ahead, after [][]byte) {
	r.t.Helper()
	for {
		keep := make([]bool, r.draw.Intn(len(waiting)+2))
		for i := range keep {
			keep[i] = r.draw.Intn(2) == 0
		}
		r.disk.Restart(keep...)
		image := kept(lasts, waiting, keep)
		stands(r.t, "behind a crash", r.disk, image)
		then, _ := plain{image: image}.opened()
		if !same(then.records, ahead) && !same(then.records, after) {
			r.t.Fatalf("records of %v bytes, neither %v nor %v", lengths(then.records), lengths(ahead), lengths(after))
		}
		ahead, after = then.records, then.records
		steps := then.beginning()
		at := r.draw.Intn(2 * len(steps))
		answers(r.t, "Fuse", r.disk.Fuse(at), api.OK)
		if at >= len(steps) {
			r.log = open(r.t, r.disk)
			r.want = then
			r.want.image = allDone(image, steps)
			is(r.t, "opened behind a crash", r.log, r.disk, r.want)
			// What is left of the fuse would go on counting.
			r.disk.Restart()
			r.log = open(r.t, r.disk)
			r.want.renew(r.want.records)
			return
		}
		unopened(r.t, "cut", r.disk, api.ErrDown)
		lasts, waiting = cut(image, steps, at)
	}
}

func (r *row) step() {
	r.t.Helper()
	act, steps, want, then := r.call()
	if len(steps) > 0 && r.draw.Intn(4) == 0 {
		at := r.draw.Intn(len(steps))
		answers(r.t, "Fuse", r.disk.Fuse(at), api.OK)
		answers(r.t, "a call that is cut", act(), api.ErrDown)
		has(r.t, "cut", r.log, r.want.generation, r.want.room(), r.want.records...)
		lasts, waiting := cut(r.want.image, steps, at)
		r.crash(lasts, waiting, r.want.records, then.records)
		return
	}
	answers(r.t, "a call", act(), want)
	then.image = allDone(then.image, steps)
	r.want = then
	is(r.t, "a call", r.log, r.disk, r.want)
}

// TestRows: long rows of calls and crashes on disks of many sizes.
func TestRows(t *testing.T) {
	for seed := range int64(24) {
		draw := rand.New(rand.NewSource(500 + seed))
		n := 4 + draw.Intn(40)
		r := &row{t: t, draw: draw, disk: diskOf(t, blank(n))}
		r.log, r.disk, r.want = opens(t, "blank", blank(n))
		for range 60 {
			r.step()
		}
	}
}
