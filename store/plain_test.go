package store

import (
	"bytes"
	"encoding/binary"
	"fmt"
	"hash/crc32"
	"maps"
	"math"
	"math/rand"
	"slices"
	"testing"

	"jetway/api"
	"jetway/disk"
)

const (
	lastGeneration = math.MaxUint32
	greatest       = math.MaxInt64 // the greatest number of a store: 2^63 - 1
)

// What a store and its disk must be, by the words of the chapters alone.

// bytesOf: a batch's bytes.
func bytesOf(number uint64, list ...Write) []byte {
	b := binary.AppendUvarint(nil, number)
	b = binary.AppendUvarint(b, uint64(len(list)))
	for _, w := range list {
		b = binary.AppendUvarint(b, uint64(len(w.Key)))
		b = append(b, w.Key...)
		if w.Drop {
			b = append(b, 0)
			continue
		}
		b = binary.AppendUvarint(append(b, 1), uint64(len(w.Value)))
		b = append(b, w.Value...)
	}
	return b
}

// sectorsOf: how many sectors records take.
func sectorsOf(records ...[]byte) int {
	n := 0
	for _, r := range records {
		n += max(1, (len(r)+490)/491)
	}
	return n
}

// plain: a store in plain maps, with the log that it lies in.
type plain struct {
	number     uint64
	pairs      map[string]Pair
	area       int
	generation uint32
	records    [][]byte
}

// after: it, and a batch behind it; the log stays.
func (p plain) after(number uint64, list ...Write) plain {
	p.pairs = maps.Clone(p.pairs)
	if p.pairs == nil {
		p.pairs = map[string]Pair{}
	}
	for _, w := range list {
		if w.Drop {
			delete(p.pairs, w.Key)
		} else {
			p.pairs[w.Key] = Pair{w.Key, bytes.Clone(w.Value), number}
		}
	}
	p.number = max(p.number, number)
	return p
}

// rising: its keys in their order.
func (p plain) rising() []string { return slices.Sorted(maps.Keys(p.pairs)) }

// between: what Range must answer.
func (p plain) between(from, to string) []Pair {
	var list []Pair
	for _, k := range p.rising() {
		if k >= from && (k < to || to == "") {
			list = append(list, p.pairs[k])
		}
	}
	return list
}

func (p plain) image() [][]byte {
	list := [][]byte{bytesOf(p.number)}
	for _, k := range p.rising() {
		x := p.pairs[k]
		list = append(list, bytesOf(x.Version, Write{Key: k, Value: x.Value}))
	}
	return list
}

// refuses: the error of one of a list's writes.
func (p plain) refuses(list []Write) api.Errno {
	if len(list) > 64 {
		return api.ErrSize
	}
	seen := map[string]bool{}
	for _, w := range list {
		x, there := p.pairs[w.Key]
		switch {
		case w.Key == "" || len(w.Key) > 32 || len(w.Value) > 4000:
			return api.ErrSize
		case seen[w.Key]:
			return api.ErrTwice
		case x.Version != w.Version:
			return api.ErrVersion
		case w.Drop && !there:
			return api.ErrNone
		}
		seen[w.Key] = true
	}
	return api.OK
}

// commit: what it is behind a commit, and what must be answered, if the power stays on.
func (p plain) commit(list ...Write) (plain, uint64, api.Errno) {
	if e := p.refuses(list); e != api.OK {
		return p, 0, e
	}
	if len(list) == 0 {
		return p, p.number, api.OK
	}
	if p.number == greatest {
		return p, 0, api.ErrSpent
	}
	record := bytesOf(p.number+1, list...)
	if len(record) > 8192 {
		return p, 0, api.ErrSize
	}
	q := p.after(p.number+1, list...)
	if sectorsOf(q.image()...) > p.area {
		return p, 0, api.ErrFull
	}
	if sectorsOf(p.records...)+sectorsOf(record) <= p.area {
		q.records = append(slices.Clone(p.records), record)
		return q, q.number, api.OK
	}
	if p.generation == lastGeneration {
		return p, 0, api.ErrSpent
	}
	q.generation, q.records = p.generation+1, q.image()
	return q, q.number, api.OK
}

// steps: how many writes and flushes it takes to come from p to q by a commit.
func (p plain) steps(q plain) int {
	if p.generation == q.generation {
		return sectorsOf(q.records...) - sectorsOf(p.records...) + 1
	}
	return q.opening()
}

// opening: how many writes and flushes it takes to begin its generation.
func (p plain) opening() int { return sectorsOf(p.records...) + 3 }

// sealed: a sector of these bytes, noughts, and the sum.
func sealed(b []byte) []byte {
	s := make([]byte, 508)
	copy(s, b)
	return binary.BigEndian.AppendUint32(s, crc32.ChecksumIEEE(s))
}

func headOf(generation uint32) []byte {
	return sealed(binary.BigEndian.AppendUint32([]byte{1}, generation))
}

// piecesOf: the sectors of all records of a generation.
func piecesOf(generation uint32, records [][]byte) [][]byte {
	var list [][]byte
	be := binary.BigEndian
	for number, r := range records {
		count := sectorsOf(r)
		for i := range count {
			b := be.AppendUint32([]byte{2}, generation)
			b = be.AppendUint32(b, uint32(number))
			b = be.AppendUint16(b, uint16(i))
			b = be.AppendUint16(b, uint16(count))
			b = be.AppendUint32(b, uint32(len(r)))
			list = append(list, sealed(append(b, r[i*491:min((i+1)*491, len(r))]...)))
		}
	}
	return list
}

// Help for the tests.

func answers(t *testing.T, name string, got, want api.Errno) {
	t.Helper()
	if got != want {
		t.Fatalf("%s: %v, not %v", name, got, want)
	}
}

// diskAt: a disk of n sectors with these records in a generation.
func diskAt(t *testing.T, n int, generation uint32, records ...[]byte) *disk.Disk {
	t.Helper()
	d, e := disk.New(n)
	answers(t, "New", e, api.OK)
	first := 2 + int(generation%2)*((n-2)/2)
	for i, s := range piecesOf(generation, records) {
		answers(t, "Write", d.Write(first+i, s), api.OK)
	}
	answers(t, "Write", d.Write(int(generation%2), headOf(generation)), api.OK)
	answers(t, "Flush", d.Flush(), api.OK)
	return d
}

// open opens a store where nothing stands against it.
func open(t *testing.T, name string, d *disk.Disk) *Store {
	t.Helper()
	s, e := Open(d)
	if e != api.OK || s == nil {
		t.Fatalf("%s: Open: %v, %v", name, s, e)
	}
	return s
}

// unopened tells if Open doesn't answer this error, and no store.
func unopened(t *testing.T, name string, d *disk.Disk, want api.Errno) {
	t.Helper()
	if s, e := Open(d); s != nil || e != want {
		t.Fatalf("%s: Open: %v, %v, not %v", name, s, e, want)
	}
}

// opened: the store that is opened in a generation, on a disk of n sectors, where the log has no records.
func opened(t *testing.T, n int, generation uint32) (*Store, *disk.Disk, plain) {
	t.Helper()
	d := diskAt(t, n, generation-1)
	s := open(t, "no records", d)
	p := plain{area: (n - 2) / 2, generation: generation}
	is(t, "no records", s, d, p)
	return s, d, p
}

// reopened: the store that is opened anew, and what it must be.
func reopened(t *testing.T, name string, d *disk.Disk, p plain) (*Store, plain) {
	t.Helper()
	s := open(t, name, d)
	p.generation++
	is(t, name, s, d, p)
	return s, p
}

func same(a, b Pair) bool {
	return a.Key == b.Key && a.Version == b.Version && bytes.Equal(a.Value, b.Value)
}

// like tells how what a store tells is unlike a plain one; the empty text, if it isn't.
func like(s *Store, p plain) string {
	if got := s.Number(); got != p.number {
		return fmt.Sprintf("number %d, not %d", got, p.number)
	}
	if got := s.Len(); got != len(p.pairs) {
		return fmt.Sprintf("%d keys, not %d", got, len(p.pairs))
	}
	want := p.between("", "")
	if !slices.EqualFunc(s.Range("", ""), want, same) {
		return "another Range of all"
	}
	for _, x := range want {
		if v, version, there := s.Get(x.Key); !there || !same(Pair{x.Key, v, version}, x) {
			return fmt.Sprintf("Get(%q): %d bytes, %d, %v, not %d, %d", x.Key, len(v), version, there, len(x.Value), x.Version)
		}
		for _, other := range []string{x.Key + "\x00", x.Key[:len(x.Key)-1], x.Key + "?"} {
			if _, ok := p.pairs[other]; ok {
				continue
			}
			if v, version, there := s.Get(other); len(v) != 0 || version != 0 || there {
				return fmt.Sprintf("Get(%q): %v, %d, %v", other, v, version, there)
			}
		}
	}
	return ""
}

func tells(t *testing.T, name string, s *Store, p plain) {
	t.Helper()
	if text := like(s, p); text != "" {
		t.Fatalf("%s: %s", name, text)
	}
	orderly(t, name, s.now.keys)
}

// orderly tells if an index isn't pages of keys in order.
func orderly(t *testing.T, name string, x index) {
	t.Helper()
	ahead := ""
	for i, p := range x {
		if len(p) < 1 || len(p) > pageKeys {
			t.Fatalf("%s: page %d has %d keys", name, i, len(p))
		}
		for _, e := range p {
			if e.key <= ahead {
				t.Fatalf("%s: page %d: %q behind %q", name, i, e.key, ahead)
			}
			ahead = e.key
		}
	}
}

// lies tells if the log on a disk isn't just the plain one's.
func lies(t *testing.T, name string, d *disk.Disk, p plain) {
	t.Helper()
	if d.Waiting() != 0 || d.Down() {
		t.Fatalf("%s: %d writes wait, down: %v", name, d.Waiting(), d.Down())
	}
	sector := func(i int) []byte {
		s, e := d.Read(i)
		answers(t, name, e, api.OK)
		return s
	}
	if !bytes.Equal(sector(int(p.generation%2)), headOf(p.generation)) {
		t.Fatalf("%s: the head isn't generation %d's", name, p.generation)
	}
	first := 2 + int(p.generation%2)*p.area
	pieces := piecesOf(p.generation, p.records)
	for i, want := range pieces {
		if got := sector(first + i); !bytes.Equal(got, want) {
			t.Fatalf("%s: sector %d of the area is %v.., not %v..", name, i, got[:60], want[:60])
		}
	}
	if len(pieces) == p.area {
		return
	}
	behind := sector(first + len(pieces))
	if behind[0] == 2 && binary.BigEndian.Uint32(behind[1:]) == p.generation {
		t.Fatalf("%s: a piece stands behind the last record: %v..", name, behind[:60])
	}
}

// is tells if a store, or what lies on its disk, isn't as the plain one.
func is(t *testing.T, name string, s *Store, d *disk.Disk, p plain) {
	t.Helper()
	tells(t, name, s, p)
	lies(t, name, d, p)
}

// commits commits, and tells if what is answered, or what is then there, isn't as it must be.
func commits(t *testing.T, name string, s *Store, d *disk.Disk, p plain, list ...Write) plain {
	t.Helper()
	q, number, want := p.commit(list...)
	if got, e := s.Commit(list...); got != number || e != want {
		t.Fatalf("%s: Commit: %d, %v, not %d, %v", name, got, e, number, want)
	}
	is(t, name, s, d, q)
	return q
}

// does commits what must be answered by this error (or OK).
func does(t *testing.T, name string, s *Store, d *disk.Disk, p plain, want api.Errno, list ...Write) plain {
	t.Helper()
	if _, _, e := p.commit(list...); e != want {
		t.Fatalf("%s: the plain store answers %v, not %v", name, e, want)
	}
	return commits(t, name, s, d, p, list...)
}

// lay, drop: writes.
func lay(key, value string, version uint64) Write {
	return Write{Key: key, Value: []byte(value), Version: version}
}

func drop(key string, version uint64) Write { return Write{Key: key, Drop: true, Version: version} }

// mixed: n bytes of all kinds, other for each seed.
func mixed(n int, seed byte) []byte {
	b := make([]byte, n)
	for i := range b {
		b[i] = byte(i)*7 ^ byte(i>>8)*31 ^ seed
	}
	return b
}

func sized(key string, n int, version uint64) Write {
	return Write{Key: key, Value: mixed(n, key[0]), Version: version}
}

// many: n writes of unlike keys, that aren't there.
func many(n int) []Write {
	var list []Write
	for i := range n {
		list = append(list, lay(fmt.Sprintf("many%04d", i), "", 0))
	}
	return list
}

// subsets goes through every choice of n things; of more than a few: all, none, all but one, and some drawn ones.
func subsets(n, drawn int, draw *rand.Rand, act func(keep []bool)) {
	const few = 5
	if n <= few {
		for bits := range 1 << n {
			keep := make([]bool, n)
			for i := range keep {
				keep[i] = bits>>i&1 == 1
			}
			act(keep)
		}
		return
	}
	act(nil)
	act(slices.Repeat([]bool{true}, n))
	for range drawn {
		keep := make([]bool, n)
		for i := range keep {
			keep[i] = draw.Intn(2) == 1
		}
		act(keep)
		nearly := slices.Repeat([]bool{true}, n)
		nearly[draw.Intn(n)] = false
		act(nearly)
	}
}
