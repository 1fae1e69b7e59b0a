package store

import (
	"bytes"
	"encoding/binary"
	"fmt"
	"math"
	"math/rand"
	"slices"
	"strings"
	"testing"

	"jetway/api"
	"jetway/disk"
	"jetway/wal"
)

// The chapter's examples.

func TestExamples(t *testing.T) {
	d, e := disk.New(30)
	answers(t, "New", e, api.OK)
	s := open(t, "a new disk", d)
	commit := func(w Write, number uint64, want api.Errno) {
		t.Helper()
		if n, e := s.Commit(w); n != number || e != want {
			t.Fatalf("Commit: %d, %v, not %d, %v", n, e, number, want)
		}
	}
	commit(lay("a", "1", 0), 1, api.OK)
	if v, version, there := s.Get("a"); string(v) != "1" || version != 1 || !there {
		t.Error(v, version, there)
	}
	commit(lay("a", "2", 0), 0, api.ErrVersion)
	commit(lay("a", "2", 1), 2, api.OK)
	commit(drop("a", 2), 3, api.OK)
	if s.Len() != 0 || s.Number() != 3 {
		t.Error(s.Len(), s.Number())
	}
}

// P6.1: Open.

func TestOpenBlank(t *testing.T) {
	for _, n := range []int{4, 5, 6, 7, 8, 30, 4095, 4096} {
		d, e := disk.New(n)
		answers(t, "New", e, api.OK)
		s := open(t, fmt.Sprint(n), d)
		is(t, fmt.Sprint(n), s, d, plain{area: (n - 2) / 2, generation: 1})
	}
}

// TestOpenLog: the log's errors come first, and beside them there is no store.
func TestOpenLog(t *testing.T) {
	bad, good := []byte{1}, bytesOf(1, lay("a", "1", 0))
	for n := 1; n < 4; n++ {
		d, e := disk.New(n)
		answers(t, "New", e, api.OK)
		unopened(t, fmt.Sprint(n), d, api.ErrRange)
		d.Cut()
		unopened(t, fmt.Sprint(n), d, api.ErrRange)
	}
	for _, record := range [][]byte{bad, good} {
		d := diskAt(t, 10, 4, record)
		d.Cut()
		unopened(t, "down", d, api.ErrDown)
		unopened(t, "spent", diskAt(t, 10, lastGeneration, record), api.ErrSpent)
		for at := range 4 {
			d = diskAt(t, 10, 4, record)
			answers(t, "Fuse", d.Fuse(at), api.OK)
			unopened(t, fmt.Sprint("cut at ", at), d, api.ErrDown)
		}
		d = diskAt(t, 10, 4, record)
		answers(t, "Fuse", d.Fuse(4), api.OK)
		if s, e := Open(d); (e == api.OK) != (&record[0] == &good[0]) || (s != nil) != (e == api.OK) {
			t.Errorf("just enough steps: %v, %v", s, e)
		}
	}
	unopened(t, "a bad record", diskAt(t, 10, 4, bad), api.ErrForm)
}

// goods: records that are the bytes of batches.
func goods() map[string][]byte {
	all := ""
	for i := range 256 {
		all += string([]byte{byte(i)})
	}
	full := []Write{sized("a", 4000, 0), sized("b", 4000, 0), sized("c", 175, 0)}
	return map[string][]byte{
		"nothing of 0":             {0, 0},
		"nothing of 5":             {5, 0},
		"two writes":               {5, 2, 1, 'a', 1, 1, 'x', 1, 'b', 0},
		"a write of 0":             {0, 1, 1, 'a', 1, 1, 'x'},
		"a value of none":          {5, 1, 1, 'a', 1, 0},
		"a key of 1":               bytesOf(7, lay("\x00", "v", 0)),
		"a key of 32":              bytesOf(7, lay(all[:32], "v", 0)),
		"a key of 32 high bytes":   bytesOf(7, lay(all[224:], "v", 0)),
		"a key of 32, dropped":     bytesOf(7, drop(all[100:132], 0)),
		"a value of 4000":          bytesOf(7, sized("a", 4000, 0)),
		"a value of all bytes":     bytesOf(7, lay("a", all, 0)),
		"64 writes":                bytesOf(7, many(64)...),
		"just MaxRecord":           bytesOf(7, full...),
		"a key twice":              bytesOf(7, lay("a", "1", 0), lay("a", "2", 0)),
		"a key laid and dropped":   bytesOf(7, lay("a", "1", 0), drop("a", 0)),
		"a key dropped and laid":   bytesOf(7, drop("a", 0), lay("a", "1", 0)),
		"a key that isn't there":   bytesOf(7, drop("a", 0)),
		"2^63 - 1":                 bytesOf(greatest, lay("a", "1", 0)),
		"2^63 - 1 without writes":  bytesOf(greatest),
		"2^62":                     bytesOf(1<<62, lay("a", "1", 0)),
		"a number of two bytes":    {128, 1, 0},
		"a value that looks like!": bytesOf(7, lay("a", "\x01\x01\x01a\x00", 0)),
	}
}

// bads: records that aren't.
func bads() map[string][]byte {
	a := func(b ...byte) []byte { return append([]byte{1, 1, 1, 'a', 1}, b...) }
	huge := binary.AppendUvarint(nil, math.MaxUint64)
	long := strings.Repeat("k", 33)
	return map[string][]byte{
		"no bytes":                   {},
		"a number alone":             {1},
		"a byte behind":              {1, 0, 0},
		"no write":                   {1, 1},
		"a write behind none":        append([]byte{1, 0}, bytesOf(1, lay("a", "1", 0))[2:]...),
		"a write too few":            append([]byte{1, 2}, bytesOf(1, lay("a", "1", 0))[2:]...),
		"a write too many":           append([]byte{1, 1}, bytesOf(1, lay("a", "1", 0), drop("b", 0))[2:]...),
		"no key, laid":               {1, 1, 0, 1, 0},
		"no key, dropped":            {1, 1, 0, 0},
		"a key cut":                  {1, 1, 2, 'a'},
		"a key, and nothing":         {1, 1, 1, 'a'},
		"a key of 33":                bytesOf(1, lay(long, "v", 0)),
		"a key of 33, dropped":       bytesOf(1, drop(long, 0)),
		"a key of 2^64 - 1":          append([]byte{1, 1}, append(huge, "abc"...)...),
		"a key of 2^63":              append([]byte{1, 1}, append(binary.AppendUvarint(nil, 1<<63), "abc"...)...),
		"a mark of 2":                {1, 1, 1, 'a', 2},
		"a mark of 2 and a value":    {1, 1, 1, 'a', 2, 1, 'x'},
		"a mark of 3":                {1, 1, 1, 'a', 3, 0},
		"a mark of 128":              {1, 1, 1, 'a', 128},
		"a mark of 128 and 0":        {1, 1, 1, 'a', 128, 0},
		"a mark of 129, then 0":      {1, 1, 1, 'a', 129, 0, 0},
		"a mark of 255":              {1, 1, 1, 'a', 255, 1},
		"a value's length missing":   a(),
		"a value cut":                a(1),
		"a value cut by one":         a(3, 'x', 'y'),
		"a value of 4001":            bytesOf(1, sized("a", 4001, 0)),
		"a value of 2^64 - 1":        a(huge...),
		"a value of 2^63 + 1":        append(a(binary.AppendUvarint(nil, 1<<63+1)...), 'x'),
		"a byte behind a value":      a(1, 'x', 'y'),
		"a byte behind a drop":       {1, 1, 1, 'a', 0, 0},
		"a long Var, number":         {129, 0, 0},
		"a long Var, the number 0":   {128, 0, 0},
		"a longer Var, number":       {129, 128, 0, 0},
		"a long Var, writes":         {1, 128, 0},
		"a long Var, one write":      {1, 129, 0, 1, 'a', 0},
		"a long Var, key":            {1, 1, 129, 0, 'a', 0},
		"a long Var, value":          a(129, 0, 'x'),
		"a long Var, no value":       a(128, 0),
		"a Var of eleven bytes":      append(slices.Repeat([]byte{128}, 10), 1, 0),
		"a Var whose tenth is 2":     append(slices.Repeat([]byte{255}, 9), 2, 0),
		"a Var that doesn't end":     slices.Repeat([]byte{255}, 9),
		"2^63":                       bytesOf(1 << 63),
		"2^63 with a write":          bytesOf(1<<63, lay("a", "1", 0)),
		"2^64 - 1":                   bytesOf(math.MaxUint64),
		"65 writes":                  bytesOf(1, many(65)...),
		"65 writes, of which 64":     append([]byte{1, 65}, bytesOf(1, many(64)...)[2:]...),
		"65 writes, none there":      {1, 65},
		"2^64 - 1 writes":            append([]byte{1}, huge...),
		"2^64 - 1 writes, one there": append(append([]byte{1}, huge...), 1, 'a', 0),
		"128 writes":                 bytesOf(1, many(128)...),
		"a second key of none":       {1, 2, 1, 'a', 0, 0, 0},
		"a second mark of 2":         {1, 2, 1, 'a', 0, 1, 'b', 2},
		"a second value cut":         {1, 2, 1, 'a', 0, 1, 'b', 1, 2, 'x'},
	}
}

// opensTo opens a disk of these records, and tells if the store isn't what they come to.
func opensTo(t *testing.T, name string, n int, records ...[]byte) (*Store, *disk.Disk, plain) {
	t.Helper()
	p := plain{area: (n - 2) / 2, generation: 7, records: records}
	for _, r := range records {
		number, list, ok := parsed(r)
		if !ok {
			t.Fatalf("%s: the record %v.. is none of a batch", name, r[:min(20, len(r))])
		}
		p = p.after(number, list...)
	}
	d := diskAt(t, n, 6, records...)
	s := open(t, name, d)
	is(t, name, s, d, p)
	return s, d, p
}

// parsed: the batch of which bytes are just those, read in any form and laid anew.
func parsed(b []byte) (number uint64, list []Write, ok bool) {
	rest := b
	read := func() uint64 {
		n, size := binary.Uvarint(rest)
		rest = rest[max(size, 0):]
		return n
	}
	piece := func(n uint64) []byte {
		n = min(n, uint64(len(rest)))
		p := rest[:n]
		rest = rest[n:]
		return p
	}
	number = read()
	count := read()
	for range min(count, 65) {
		w := Write{Key: string(piece(read()))}
		if bytes.Equal(piece(1), []byte{1}) {
			w.Value = piece(read())
		} else {
			w.Drop = true
		}
		if len(w.Key) < 1 || len(w.Key) > 32 || len(w.Value) > 4000 {
			return 0, nil, false
		}
		list = append(list, w)
	}
	if count > 64 || number > greatest || !bytes.Equal(bytesOf(number, list...), b) {
		return 0, nil, false
	}
	return number, list, true
}

func TestOpenForms(t *testing.T) {
	first, last := bytesOf(1, lay("first", "1", 0)), bytesOf(9, lay("last", "9", 0))
	for name, r := range goods() {
		opensTo(t, name, 80, r)
		opensTo(t, name+", between", 80, first, r, last)
	}
	for name, r := range bads() {
		if _, _, ok := parsed(r); ok {
			t.Errorf("%s is a batch", name)
		}
		unopened(t, name, diskAt(t, 80, 6, r), api.ErrForm)
		unopened(t, name+", behind another", diskAt(t, 80, 6, first, r), api.ErrForm)
		unopened(t, name+", ahead of another", diskAt(t, 80, 6, r, last), api.ErrForm)
	}
}

// TestOpenCut: no beginning of a batch is one, and nothing stands behind one.
func TestOpenCut(t *testing.T) {
	for name, r := range goods() {
		if len(r) > 600 {
			continue
		}
		for n := range r {
			if b, ok := readBatch(r[:n]); ok || b.number != 0 || b.writes != nil {
				t.Errorf("%s, cut at %d, is %v", name, n, b)
			}
			if n%16 == 0 {
				unopened(t, fmt.Sprintf("%s, cut at %d", name, n), diskAt(t, 20, 6, r[:n]), api.ErrForm)
			}
		}
		for _, c := range []byte{0, 1, 2, 'a', 128, 255} {
			unopened(t, fmt.Sprintf("%s and %d", name, c), diskAt(t, 20, 6, append(bytes.Clone(r), c)), api.ErrForm)
		}
	}
}

// TestOpenDrawn: bytes of all kinds, and batches of which a byte was turned.
func TestOpenDrawn(t *testing.T) {
	draw := rand.New(rand.NewSource(61))
	signs := []byte{0, 0, 1, 1, 1, 2, 3, 'a', 'b', 127, 128, 129, 255}
	base := bytesOf(300, lay("ab", "xyz", 0), drop("c", 0), lay("d", "", 0))
	seen := map[bool]int{}
	for i := range 60000 {
		var b []byte
		if i%2 == 0 {
			b = make([]byte, draw.Intn(12))
			for k := range b {
				b[k] = signs[draw.Intn(len(signs))]
			}
		} else {
			b = bytes.Clone(base)
			b[draw.Intn(len(b))] = signs[draw.Intn(len(signs))]
		}
		number, list, want := parsed(b)
		got, ok := readBatch(b)
		seen[ok]++
		if ok != want || got.number != number || !slices.EqualFunc(got.writes, list, func(a, b Write) bool {
			return a.Drop == b.Drop && a.Version == 0 && same(Pair{a.Key, a.Value, 0}, Pair{b.Key, b.Value, 0})
		}) {
			t.Fatalf("%v is %v, %v, not %d, %v, %v", b, got, ok, number, list, want)
		}
		if i%100 > 1 {
			continue
		}
		if d := diskAt(t, 6, 6, b); want {
			opensTo(t, "drawn", 6, b)
		} else {
			unopened(t, fmt.Sprint(b), d, api.ErrForm)
		}
	}
	if seen[true] < 500 || seen[false] < 500 {
		t.Errorf("drawn: %v", seen)
	}
}

// TestOpenComesTo: what records come to, lower numbers behind higher ones, too.
func TestOpenComesTo(t *testing.T) {
	s, d, p := opensTo(t, "lower ones behind", 40,
		bytesOf(5, lay("a", "x", 0), lay("b", "y", 0), lay("d", "5", 0)),
		bytesOf(3, lay("a", "z", 0)), bytesOf(4, drop("b", 0)), bytesOf(0, lay("e", "0", 0)), bytesOf(2, lay("c", "", 0)))
	for key, version := range map[string]uint64{"a": 3, "c": 2, "d": 5, "e": 0} {
		if _, got, there := s.Get(key); got != version || !there {
			t.Errorf("%s: %d, %v, not %d", key, got, there, version)
		}
	}
	if _, _, there := s.Get("b"); there || s.Number() != 5 || s.Len() != 4 {
		t.Error(there, s.Number(), s.Len())
	}
	p = does(t, "a's old version", s, d, p, api.ErrVersion, lay("a", "w", 5))
	p = does(t, "a", s, d, p, api.OK, lay("a", "w", 3))
	p = does(t, "e isn't absent", s, d, p, api.ErrVersion, drop("e", 1))
	p = does(t, "e, of version 0", s, d, p, api.OK, drop("e", 0))
	p = does(t, "e is absent", s, d, p, api.ErrNone, drop("e", 0))
	if s.Number() != 7 {
		t.Error(s.Number())
	}
	reopened(t, "lower ones behind", d, p)
	opensTo(t, "twice in one", 20, bytesOf(2, lay("a", "1", 0), lay("a", "2", 0), drop("a", 0), lay("a", "3", 0)))
	opensTo(t, "a number alone", 20, bytesOf(6), bytesOf(3), bytesOf(4, drop("x", 0)))

	draw := rand.New(rand.NewSource(62))
	for range 400 {
		var records [][]byte
		for range draw.Intn(12) {
			var list []Write
			for range draw.Intn(5) {
				list = append(list, Write{Key: string(rune('a' + draw.Intn(6))), Value: mixed(draw.Intn(9), 1), Drop: draw.Intn(3) == 0})
			}
			records = append(records, bytesOf(uint64(draw.Intn(200)), list...))
		}
		opensTo(t, "drawn", 40, records...)
	}
}

// P6.2: Commit.

func TestCommitSizes(t *testing.T) {
	s, d, p := opened(t, 60, 3)
	key := string(mixed(40, 0x80))
	for _, n := range []int{0, 1, 2, 31, 32, 33, 40} {
		want := api.OK
		if n < 1 || n > 32 {
			want = api.ErrSize
		}
		name := fmt.Sprint("a key of ", n)
		p = does(t, name, s, d, p, want, lay(key[:n], "v", 0))
		version := p.pairs[key[:n]].Version
		p = does(t, name+", dropped", s, d, p, want, drop(key[:n], version))
	}
	for i := range 256 {
		k := string([]byte{byte(i)})
		p = does(t, fmt.Sprint("a key of the byte ", i), s, d, p, api.OK, lay(k, "v", 0))
		p = does(t, fmt.Sprint("a key of the byte ", i), s, d, p, api.OK, drop(k, p.number))
	}
	for _, n := range []int{0, 1, 3999, 4000, 4001, 9000} {
		want := api.OK
		if n > 4000 {
			want = api.ErrSize
		}
		name := fmt.Sprint("a value of ", n)
		p = does(t, name, s, d, p, want, sized("a", n, p.pairs["a"].Version))
		p = does(t, name+", dropped", s, d, p, want, Write{"a", mixed(n, 1), true, p.pairs["a"].Version})
		p = does(t, name+", laid", s, d, p, api.OK, lay("a", "", p.pairs["a"].Version))
	}
	p = does(t, "nil", s, d, p, api.OK, Write{Key: "a", Version: p.number})
	p = does(t, "no bytes", s, d, p, api.OK, Write{Key: "a", Value: []byte{}, Version: p.number})
	if v, version, there := s.Get("a"); len(v) != 0 || version != p.number || !there {
		t.Error(v, version, there)
	}
	reopened(t, "opened", d, p)
}

func TestCommitLists(t *testing.T) {
	s, d, p := opened(t, 400, 3)
	p = does(t, "no writes", s, d, p, api.OK)
	p = does(t, "65 writes", s, d, p, api.ErrSize, many(65)...)
	p = does(t, "65 empty writes", s, d, p, api.ErrSize, make([]Write, 65)...)
	p = does(t, "64 empty writes", s, d, p, api.ErrSize, make([]Write, 64)...)
	p = does(t, "100000 writes", s, d, p, api.ErrSize, make([]Write, 100000)...)
	p = does(t, "65 of one key", s, d, p, api.ErrSize, slices.Repeat([]Write{lay("a", "", 0)}, 65)...)
	p = does(t, "64 of one key", s, d, p, api.ErrTwice, slices.Repeat([]Write{lay("a", "", 0)}, 64)...)
	if s.Number() != 0 {
		t.Error(s.Number())
	}
	p = does(t, "64 writes", s, d, p, api.OK, many(64)...)
	if n, e := s.Commit(nil...); n != 1 || e != api.OK || s.Len() != 64 {
		t.Error(n, e, s.Len())
	}
	list := many(63)
	for i := range list {
		list[i].Drop, list[i].Version = true, 1
	}
	p = does(t, "63 drops and one more", s, d, p, api.OK, append(list, lay("z", "", 0))...)
	if s.Len() != 2 || s.Number() != 2 {
		t.Error(s.Len(), s.Number())
	}
	reopened(t, "opened", d, p)
}

// TestCommitVersions: of keys that are there and that aren't.
func TestCommitVersions(t *testing.T) {
	s, d, p := opened(t, 60, 3)
	p = does(t, "a", s, d, p, api.OK, lay("a", "1", 0))
	p = does(t, "b", s, d, p, api.OK, lay("b", "2", 0))
	p = does(t, "a again", s, d, p, api.OK, lay("a", "3", 1))
	for _, version := range []uint64{0, 1, 2, 4, 1<<32 + 3, 1 << 63, math.MaxUint64} {
		p = does(t, fmt.Sprint("a as ", version), s, d, p, api.ErrVersion, lay("a", "4", version))
		p = does(t, fmt.Sprint("a dropped as ", version), s, d, p, api.ErrVersion, drop("a", version))
		if version > 0 {
			p = does(t, fmt.Sprint("c as ", version), s, d, p, api.ErrVersion, lay("c", "4", version))
			p = does(t, fmt.Sprint("c dropped as ", version), s, d, p, api.ErrVersion, drop("c", version))
		}
	}
	p = does(t, "c dropped", s, d, p, api.ErrNone, drop("c", 0))
	p = does(t, "the empty key", s, d, p, api.ErrSize, drop("", 0))
	p = does(t, "b's version is its own", s, d, p, api.OK, drop("b", 2))
	p = does(t, "b isn't there any more", s, d, p, api.ErrNone, drop("b", 0))
	p = does(t, "b's old version", s, d, p, api.ErrVersion, lay("b", "5", 2))
	p = does(t, "b anew", s, d, p, api.OK, lay("b", "5", 0))
	if _, version, _ := s.Get("b"); version != 5 {
		t.Error(version)
	}
	// Versions are those from ahead of the batch, whatever it has done.
	p = does(t, "all at once", s, d, p, api.OK, lay("c", "6", 0), drop("a", 3), lay("b", "7", 5), lay("d", "8", 0))
	reopened(t, "opened", d, p)
}

// TestCommitFirst: which error comes first, write by write.
func TestCommitFirst(t *testing.T) {
	s, d, p := opened(t, 60, 3)
	p = does(t, "a", s, d, p, api.OK, lay("a", "1", 0))
	good := lay("g", "1", 0)
	// Each of these is refused by one error alone, and by more, of which the first counts.
	long := Write{Key: strings.Repeat("k", 33), Value: make([]byte, 4001), Drop: true, Version: 9}
	twice := Write{Key: "g", Drop: true, Version: 9}
	stale := Write{Key: "a", Drop: true, Version: 9}
	stray := Write{Key: "x", Drop: true, Version: 9}
	none := drop("x", 0)
	bigA := Write{Key: "a", Value: make([]byte, 4001), Version: 1}
	bigG := Write{Key: "g", Value: make([]byte, 4001)}
	for name, c := range map[string]struct {
		want api.Errno
		list []Write
	}{
		"size ahead of all":               {api.ErrSize, []Write{long, twice, stale, none}},
		"size ahead of twice":             {api.ErrSize, []Write{good, bigG}},
		"size ahead of version":           {api.ErrSize, []Write{{Key: "a", Value: make([]byte, 4001), Version: 7}}},
		"size ahead of none":              {api.ErrSize, []Write{{Key: "x", Value: make([]byte, 4001), Drop: true}}},
		"twice ahead of version":          {api.ErrTwice, []Write{good, twice}},
		"twice ahead of none":             {api.ErrTwice, []Write{good, drop("g", 0)}},
		"twice of a key that is there":    {api.ErrTwice, []Write{lay("a", "2", 1), lay("a", "3", 1)}},
		"twice of one that is dropped":    {api.ErrTwice, []Write{drop("a", 1), lay("a", "3", 0)}},
		"twice, far apart":                {api.ErrTwice, slices.Concat([]Write{good}, many(62), []Write{good})},
		"twice, of the last two":          {api.ErrTwice, slices.Concat(many(62), []Write{good, good})},
		"version ahead of none":           {api.ErrVersion, []Write{stray}},
		"an earlier version":              {api.ErrVersion, []Write{stale, long, none}},
		"an earlier none":                 {api.ErrNone, []Write{none, long, stale}},
		"an earlier twice":                {api.ErrTwice, []Write{good, good, stale, long}},
		"an earlier size":                 {api.ErrSize, []Write{bigA, good, good}},
		"the second is stale":             {api.ErrVersion, []Write{good, stale, none, long}},
		"the last is none":                {api.ErrNone, []Write{good, lay("a", "2", 1), none}},
		"too many of any":                 {api.ErrSize, slices.Concat([]Write{stale}, many(64))},
		"too many, none first":            {api.ErrSize, slices.Concat([]Write{none}, many(64))},
		"a write's ahead of the record's": {api.ErrNone, []Write{sized("p", 4000, 0), sized("q", 4000, 0), sized("r", 4000, 0), none}},
	} {
		p = does(t, name, s, d, p, c.want, c.list...)
	}
	if s.Number() != 1 || s.Len() != 1 {
		t.Error(s.Number(), s.Len())
	}
}

// three: a batch of three writes, whose bytes are 8017 and n, if the number has one byte, and n is from 128 on.
func three(n int) []Write {
	return []Write{sized("a", 4000, 0), sized("b", 4000, 0), sized("c", n, 0)}
}

// TestCommitRecord: a batch whose bytes are just MaxRecord, and one more.
func TestCommitRecord(t *testing.T) {
	if n := len(bytesOf(1, three(175)...)); n != 8192 {
		t.Fatalf("the batch has %d bytes", n)
	}
	s, d, p := opened(t, 100, 3)
	p = does(t, "one more", s, d, p, api.ErrSize, three(176)...)
	p = does(t, "many more", s, d, p, api.ErrSize, three(4000)...)
	p = does(t, "a drop more", s, d, p, api.OK, lay("d", "", 0))
	p = does(t, "a drop more", s, d, p, api.ErrSize, append(three(175), drop("d", 1))...)
	p = does(t, "just as many", s, d, p, api.OK, three(175)...)
	p = does(t, "the values of what is dropped don't count", s, d, p, api.OK,
		Write{"a", make([]byte, 4000), true, 2}, Write{"b", make([]byte, 4000), true, 2}, Write{"c", make([]byte, 4000), true, 2})

	// From number 128 on a number has two bytes: it is the batch's own that counts.
	for number, want := range map[uint64]api.Errno{126: api.OK, 127: api.ErrSize, 128: api.ErrSize} {
		s, d, p := opensTo(t, "a number alone", 100, bytesOf(number))
		p = does(t, fmt.Sprint("behind ", number), s, d, p, want, three(175)...)
		does(t, fmt.Sprint("behind ", number), s, d, p, api.OK, sized("e", 174, 0))
	}
	s, d, p = opensTo(t, "127", 100, bytesOf(127))
	does(t, "behind 127", s, d, p, api.OK, three(174)...)
}

// TestCommitFull: an image that is just full, and one sector over, with room in the log and without.
func TestCommitFull(t *testing.T) {
	s, d, p := opened(t, 12, 3) // areas of 5 sectors: an image of the number and 4 more
	p = does(t, "5 keys, for whose record there is room", s, d, p, api.ErrFull, many(5)...)
	p = does(t, "4 keys", s, d, p, api.OK, many(4)...)
	p = does(t, "a fifth one", s, d, p, api.ErrFull, lay("e", "", 0))
	p = does(t, "a fifth one for another", s, d, p, api.OK, lay("e", "", 0), drop("many0000", 1))
	p = does(t, "one sector more", s, d, p, api.ErrFull, sized("e", 485, 2))
	if n := len(bytesOf(3, sized("e", 484, 0))); n != 491 {
		t.Fatalf("the record has %d bytes", n)
	}
	p = does(t, "a record of 491", s, d, p, api.OK, sized("e", 484, 2))
	p = does(t, "a record of 492", s, d, p, api.OK, sized("e", 485, 3), drop("many0001", 1))
	p = does(t, "as many of another key", s, d, p, api.ErrFull, sized("many0002", 485, 1))
	p = does(t, "two sectors to three", s, d, p, api.ErrFull, sized("e", 976, 4))
	p = does(t, "two sectors, full", s, d, p, api.OK, sized("e", 975, 4))
	p = does(t, "a drop", s, d, p, api.OK, drop("e", 5))
	p = does(t, "four of 2000", s, d, p, api.ErrFull, sized("f", 2000, 0))
	s, p = reopened(t, "opened", d, p)
	does(t, "and again", s, d, p, api.ErrFull, sized("f", 2000, 0))

	// A version of two bytes makes a record longer by one.
	s, d, p = opensTo(t, "126", 8, bytesOf(126))
	p = does(t, "as 127", s, d, p, api.OK, sized("e", 484, 0), lay("f", "", 0))
	p = does(t, "as 128", s, d, p, api.ErrFull, sized("e", 484, 127))
	p = does(t, "as 128, shorter", s, d, p, api.OK, sized("e", 483, 127))
	reopened(t, "opened", d, p)

	// The least disk has room for the number alone.
	s, d, p = opened(t, 4, 3)
	p = does(t, "a key", s, d, p, api.ErrFull, lay("a", "", 0))
	p = does(t, "none", s, d, p, api.OK)
	does(t, "a key", s, d, p, api.ErrFull, lay("a", "", 0))
}

// TestCommitOverfull: records may come to more keys than an image has room for.
func TestCommitOverfull(t *testing.T) {
	s, d, p := opensTo(t, "ten keys", 10, bytesOf(3, many(10)...)) // areas of 4 sectors
	p = does(t, "one more", s, d, p, api.ErrFull, lay("x", "", 0))
	p = does(t, "one laid anew", s, d, p, api.ErrFull, lay("many0003", "1", 3))
	p = does(t, "one less", s, d, p, api.ErrFull, drop("many0003", 3))
	p = does(t, "none", s, d, p, api.OK)
	var list []Write
	for _, w := range many(7) {
		list = append(list, drop(w.Key, 3))
	}
	p = does(t, "six less", s, d, p, api.ErrFull, list[:6]...)
	p = does(t, "seven less", s, d, p, api.OK, list...)
	reopened(t, "opened", d, p)
}

// TestCommitRenews: the log is renewed where there is no room for a batch, and not ahead of that.
func TestCommitRenews(t *testing.T) {
	s, d, p := opened(t, 16, 3) // areas of 7 sectors
	for i := range 7 {
		p = does(t, "appended", s, d, p, api.OK, lay("a", fmt.Sprint(i), p.number))
		if len(p.records) != i+1 || p.generation != 3 {
			t.Fatalf("%d records in generation %d", len(p.records), p.generation)
		}
	}
	p = does(t, "renewed", s, d, p, api.OK, lay("b", "8", 0))
	if len(p.records) != 3 || p.generation != 4 {
		t.Fatalf("%d records in generation %d", len(p.records), p.generation)
	}
	p = does(t, "three sectors", s, d, p, api.OK, sized("c", 1400, 0))
	p = does(t, "two sectors, and one is left", s, d, p, api.OK, sized("b", 500, 8))
	if p.generation != 5 {
		t.Fatalf("generation %d", p.generation)
	}
	s, p = reopened(t, "opened", d, p)
	for i := range 40 {
		p = does(t, "full", s, d, p, api.OK, lay("a", fmt.Sprint(i), p.pairs["a"].Version))
	}
	p = does(t, "all dropped", s, d, p, api.OK, drop("a", p.number), drop("b", 10), drop("c", 9))
	p = does(t, "and nothing", s, d, p, api.OK)
	reopened(t, "opened", d, p)
}

// TestImage: the records of an image as they stand in the log, by hand.
func TestImage(t *testing.T) {
	d, e := disk.New(12) // areas of 5 sectors
	answers(t, "New", e, api.OK)
	s := open(t, "a new disk", d)
	for _, list := range [][]Write{
		{lay("b", "B", 0), lay("\xff", "", 0)}, {lay("a", "A", 0)}, {drop("b", 1)}, {lay("b\x00", "x", 0)}, {lay("b\x00", "yz", 4)},
	} {
		_, e := s.Commit(list...)
		answers(t, "Commit", e, api.OK)
	}
	want := [][]byte{
		{1, 2, 1, 'b', 1, 1, 'B', 1, 255, 1, 0}, {2, 1, 1, 'a', 1, 1, 'A'}, {3, 1, 1, 'b', 0}, {4, 1, 2, 'b', 0, 1, 1, 'x'}, {5, 1, 2, 'b', 0, 1, 2, 'y', 'z'},
	}
	hold := func(name string, generation uint32) {
		t.Helper()
		l, e := wal.Open(d.Clone())
		if e != api.OK || l.Generation() != generation+1 || !slices.EqualFunc(l.Records(), want, bytes.Equal) {
			t.Fatalf("%s: generation %d: %v", name, l.Generation(), l.Records())
		}
	}
	hold("appended", 1)
	_, e = s.Commit(Write{Key: "a", Value: []byte("last"), Drop: true, Version: 2})
	answers(t, "Commit", e, api.OK)
	want = [][]byte{{6, 0}, {5, 1, 2, 'b', 0, 1, 2, 'y', 'z'}, {1, 1, 1, 255, 1, 0}}
	hold("renewed", 2)
	open(t, "opened", d)
	hold("opened", 3)
}

// TestNumberEnd: the number at its end, and just below.
func TestNumberEnd(t *testing.T) {
	for _, size := range []int{6, 60} { // with a renewal at each batch, and with none
		name := fmt.Sprint("a disk of ", size)
		s, d, p := opensTo(t, name, size, bytesOf(greatest-2))
		p = does(t, name, s, d, p, api.OK, lay("a", "1", 0))
		p = does(t, name, s, d, p, api.OK, lay("a", "2", greatest-1))
		if s.Number() != greatest || p.pairs["a"].Version != greatest {
			t.Fatal(s.Number())
		}
		p = does(t, name+": spent", s, d, p, api.ErrSpent, lay("a", "3", greatest))
		p = does(t, name+": spent", s, d, p, api.ErrSpent, drop("a", greatest))
		p = does(t, name+": none", s, d, p, api.OK)
		p = does(t, name+": an error of a write", s, d, p, api.ErrVersion, lay("a", "3", 0))
		p = does(t, name+": too many", s, d, p, api.ErrSize, many(65)...)
		p = does(t, name+": ahead of the record's size", s, d, p, api.ErrSpent, sized("p", 4000, 0), sized("q", 4000, 0), sized("r", 4000, 0))
		p = does(t, name+": ahead of ErrFull", s, d, p, api.ErrSpent, many(64)...)
		s, p = reopened(t, name, d, p)
		does(t, name+": spent", s, d, p, api.ErrSpent, lay("b", "", 0))
	}
	s, d, p := opensTo(t, "of a key", 60, bytesOf(greatest, lay("a", "1", 0)), bytesOf(4, lay("b", "1", 0)))
	does(t, "of a key", s, d, p, api.ErrSpent, lay("b", "2", 4))
}

// TestGenerationEnd: a log that can't be renewed any more.
func TestGenerationEnd(t *testing.T) {
	s, d, p := opened(t, 12, lastGeneration) // areas of 5 sectors
	for i := range 5 {
		p = does(t, "appended", s, d, p, api.OK, lay("a", fmt.Sprint(i), p.number))
	}
	p = does(t, "spent", s, d, p, api.ErrSpent, lay("a", "", 5))
	p = does(t, "spent", s, d, p, api.ErrSpent, drop("a", 5))
	p = does(t, "none", s, d, p, api.OK)
	p = does(t, "ErrFull ahead of it", s, d, p, api.ErrFull, many(4)...)
	p = does(t, "ErrSize ahead of it", s, d, p, api.ErrSize, sized("p", 4000, 0), sized("q", 4000, 0), sized("r", 4000, 0))
	p = does(t, "ErrVersion ahead of it", s, d, p, api.ErrVersion, lay("a", "", 4))
	d.Cut()
	if n, e := s.Commit(lay("a", "", 5)); n != 0 || e != api.ErrSpent {
		t.Errorf("spent and down: %d, %v", n, e)
	}
	tells(t, "spent and down", s, p)

	s, d, p = opened(t, 12, lastGeneration)
	p = does(t, "one sector", s, d, p, api.OK, lay("a", "", 0))
	p = does(t, "one sector", s, d, p, api.OK, lay("a", "", 1))
	p = does(t, "four sectors of three", s, d, p, api.ErrSpent, sized("a", 1600, 2))
	p = does(t, "three sectors of three", s, d, p, api.OK, sized("a", 1400, 2))
	does(t, "none left", s, d, p, api.ErrSpent, lay("a", "", 3))

	s, d, p = opened(t, 12, lastGeneration-1)
	for i := range 6 {
		p = does(t, "the last renewal", s, d, p, api.OK, lay("a", fmt.Sprint(i), p.number))
	}
	for p.generation != lastGeneration || sectorsOf(p.records...) < p.area {
		p = does(t, "in the last", s, d, p, api.OK, lay("a", "", p.number))
	}
	does(t, "spent", s, d, p, api.ErrSpent, lay("a", "", p.number))
	unopened(t, "spent", d, api.ErrSpent)
}

// TestCommitOrder: of all that could be told beside each other the first one is.
func TestCommitOrder(t *testing.T) {
	big := []Write{sized("p", 4000, 0), sized("q", 4000, 0), sized("r", 4000, 0)}
	s, d, p := opened(t, 8, 3) // areas of 3 sectors
	p = does(t, "the record's size ahead of ErrFull", s, d, p, api.ErrSize, big...)
	p = does(t, "a", s, d, p, api.OK, lay("a", "", 0))
	for name, c := range map[string]struct {
		want api.Errno
		list []Write
	}{
		"too many":          {api.ErrSize, many(65)},
		"a size":            {api.ErrSize, []Write{lay("", "", 0)}},
		"twice":             {api.ErrTwice, []Write{lay("b", "", 0), lay("b", "", 0)}},
		"a version":         {api.ErrVersion, []Write{lay("a", "", 0)}},
		"none":              {api.ErrNone, []Write{drop("b", 0)}},
		"the record's size": {api.ErrSize, big},
		"full":              {api.ErrFull, many(5)},
		"no writes":         {api.OK, nil},
	} {
		own := d.Clone()
		s, q := reopened(t, name, own, p)
		own.Cut()
		number := q.number
		if c.want != api.OK {
			number = 0
		}
		if n, e := s.Commit(c.list...); n != number || e != c.want {
			t.Errorf("down, %s: %d, %v, not %v", name, n, e, c.want)
		}
		tells(t, name, s, q)
		// None of these has closed it: the power tells only where it is asked for.
		if n, e := s.Commit(lay("b", "", 0)); n != 0 || e != api.ErrDown {
			t.Errorf("down, behind %s: %d, %v", name, n, e)
		}
		if n, e := s.Commit(c.list...); n != 0 || e != api.ErrState {
			t.Errorf("closed, %s: %d, %v", name, n, e)
		}
		tells(t, name, s, q)
	}
}

// TestCommitDrawn: rows of commits and openings, against the plain store.
func TestCommitDrawn(t *testing.T) {
	keys := []string{"a", "b", "ab", "a\x00", "\x00", "\xff", "\xff\xff", strings.Repeat("k", 32), strings.Repeat("k", 31), "", strings.Repeat("k", 33), "m", "n", "o"}
	sizes := []int{0, 1, 2, 100, 400, 470, 484, 485, 900, 1500, 4000, 4001}
	draw := rand.New(rand.NewSource(63))
	seen := map[api.Errno]int{}
	renewed := 0
	for _, size := range []int{4, 6, 8, 9, 12, 16, 20, 30, 44, 60} {
		s, d, p := opened(t, size, uint32(3+draw.Intn(2)))
		for range 400 {
			if draw.Intn(25) == 0 {
				s, p = reopened(t, "opened", d, p)
			}
			var list []Write
			for range draw.Intn(4) + draw.Intn(2)*draw.Intn(3) {
				k := keys[draw.Intn(len(keys)-3*draw.Intn(2))]
				w := Write{Key: k, Value: mixed(sizes[draw.Intn(len(sizes))]/(1+draw.Intn(4)), byte(draw.Intn(256))), Drop: draw.Intn(3) == 0, Version: p.pairs[k].Version}
				if draw.Intn(12) == 0 {
					w.Version = uint64(draw.Intn(5))
				}
				list = append(list, w)
			}
			_, _, e := p.commit(list...)
			seen[e]++
			q := commits(t, fmt.Sprint("a disk of ", size), s, d, p, list...)
			if q.generation != p.generation {
				renewed++
			}
			p = q
		}
	}
	for _, e := range []api.Errno{api.OK, api.ErrSize, api.ErrTwice, api.ErrVersion, api.ErrNone, api.ErrFull} {
		if seen[e] < 50 {
			t.Errorf("%v only %d times", e, seen[e])
		}
	}
	if renewed < 50 {
		t.Errorf("only %d renewals", renewed)
	}
}

// P6.3: Get, Range, Len, Number.

func TestRange(t *testing.T) {
	s, d, p := opened(t, 200, 3)
	texts := []string{"\x00", "\x00\x00", "A", "AA", "AB", "B", "a", "a\x00", "a\xff", "ab", "abc", "b", "\x7f", "\x80", "\xff", "\xff\xff", strings.Repeat("\xff", 32)}
	if l := s.Range("", ""); len(l) != 0 {
		t.Error(l)
	}
	for i, k := range texts {
		if i%2 == 0 {
			p = does(t, "laid", s, d, p, api.OK, lay(k, fmt.Sprint(i), 0))
		}
	}
	texts = append(texts, "", "0", "aa", "z", strings.Repeat("a", 40), strings.Repeat("\xff", 33))
	for _, from := range texts {
		for _, to := range texts {
			want := p.between(from, to)
			if got := s.Range(from, to); !slices.EqualFunc(got, want, same) {
				t.Errorf("Range(%q, %q) is %v, not %v", from, to, got, want)
			}
		}
		want := p.pairs[from]
		if v, version, there := s.Get(from); !bytes.Equal(v, want.Value) || version != want.Version || there != (want.Key != "") {
			t.Errorf("Get(%q): %v, %d, %v", from, v, version, there)
		}
	}
}

// TestManyKeys: as many keys as a disk has room for, laid and dropped in any order.
func TestManyKeys(t *testing.T) {
	for _, step := range []int{1, 2046, 701} { // rising, falling, and mixed; 2047 is 23 times 89
		s, d, p := opened(t, 4096, 3)
		name := fmt.Sprint("by ", step)
		key := func(i int) string { return fmt.Sprintf("key%04d", i*step%2047) }
		for i := 0; i < 2046; {
			var list []Write
			for ; i < 2046 && len(list) < 62; i++ {
				list = append(list, lay(key(i), key(i), 0))
			}
			var want uint64
			p, want, _ = p.commit(list...)
			if n, e := s.Commit(list...); n != want || e != api.OK {
				t.Fatalf("%s: %d, %v", name, n, e)
			}
			orderly(t, name, s.now.keys)
		}
		is(t, name, s, d, p)
		p = does(t, name+": one more", s, d, p, api.ErrFull, lay("more", "", 0))
		draw := rand.New(rand.NewSource(64))
		for range 300 {
			from, to := key(draw.Intn(2047)), key(draw.Intn(2047))
			if draw.Intn(2) == 0 {
				from += "x"
			}
			if !slices.EqualFunc(s.Range(from, to), p.between(from, to), same) {
				t.Fatalf("%s: Range(%s, %s)", name, from, to)
			}
		}
		for order := draw.Perm(2046); len(order) > 200; {
			n := 1 + draw.Intn(9)
			var list []Write
			for _, i := range order[:n] {
				list = append(list, drop(key(i), p.pairs[key(i)].Version))
			}
			order = order[n:]
			p, _, _ = p.commit(list...)
			if _, e := s.Commit(list...); e != api.OK {
				t.Fatalf("%s: %v", name, e)
			}
			tells(t, name, s, p)
		}
		is(t, name, s, d, p)
		s, p = reopened(t, name, d, p)
		does(t, name, s, d, p, api.OK, many(64)...)
	}
}

// TestManyOpened: records may come to far more keys than there are sectors.
func TestManyOpened(t *testing.T) {
	var records [][]byte
	for i := range 500 {
		var list []Write
		for k := range 64 {
			list = append(list, lay(fmt.Sprintf("%05d", (i*64+k)*7919%32000), "", 0))
		}
		records = append(records, bytesOf(uint64(i+1), list...))
	}
	s, d, p := opensTo(t, "32000 keys", 4096, records...)
	does(t, "32000 keys", s, d, p, api.ErrFull, lay("x", "", 0))
}

// P6.4: a closed store, and what an error leaves.

// TestClosed: a store that has answered ErrDown tells what it told ahead of that, for good.
func TestClosed(t *testing.T) {
	for name, size := range map[string]int{"appended": 60, "renewed": 14} { // areas of 29 and of 6 sectors
		for at := 0; ; at++ {
			s, d, p := opened(t, size, 3)
			p = does(t, name, s, d, p, api.OK, lay("a", "1", 0), lay("b", "2", 0))
			p = does(t, name, s, d, p, api.OK, sized("a", 900, 1))
			list := []Write{sized("c", 600, 0), drop("b", 1), lay("d", "", 0)}
			q, number, _ := p.commit(list...)
			answers(t, "Fuse", d.Fuse(at), api.OK)
			n, e := s.Commit(list...)
			if at == p.steps(q) {
				if n != number || e != api.OK {
					t.Fatalf("%s, with %d steps: %d, %v", name, at, n, e)
				}
				is(t, name, s, d, q)
				break
			}
			if n != 0 || e != api.ErrDown {
				t.Fatalf("%s, cut at %d: %d, %v", name, at, n, e)
			}
			for range 2 {
				tells(t, name, s, p)
				for _, again := range [][]Write{nil, list, many(65), {lay("", "", 0)}, {lay("a", "", 9)}, {drop("x", 0)}} {
					if n, e := s.Commit(again...); n != 0 || e != api.ErrState {
						t.Errorf("%s, cut at %d, closed: %d, %v", name, at, n, e)
					}
				}
				tells(t, name, s, p)
				d.Restart(true, true, true, true, true, true, true, true)
			}
			if d.Waiting() != 0 {
				t.Errorf("%s: a closed store writes", name)
			}
		}
	}
}

// TestDown: the power is off ahead of a commit.
func TestDown(t *testing.T) {
	s, d, p := opened(t, 60, 3)
	p = does(t, "a", s, d, p, api.OK, lay("a", "1", 0))
	d.Cut()
	if n, e := s.Commit(); n != 1 || e != api.OK {
		t.Errorf("no writes: %d, %v", n, e)
	}
	if n, e := s.Commit(lay("a", "2", 1)); n != 0 || e != api.ErrDown {
		t.Errorf("%d, %v", n, e)
	}
	if n, e := s.Commit(); n != 0 || e != api.ErrState {
		t.Errorf("closed: %d, %v", n, e)
	}
	tells(t, "down", s, p)
	d.Restart()
	reopened(t, "on again", d, p)
}

// roomy: a value with spare room behind it, and all of that memory.
func roomy(n int, seed byte) (value, all []byte) {
	all = mixed(n+40, seed)
	return all[:n], all
}

func turn(b []byte) {
	b = b[:cap(b)]
	for i := range b {
		b[i] ^= 0x55
	}
}

// TestGiven: what is handed in stays as it was, and may be changed afterwards.
func TestGiven(t *testing.T) {
	for _, size := range []int{14, 60} {
		s, d, p := opened(t, size, 3)
		for i := range 12 {
			n := []int{0, 1, 300, 484}[i%4]
			value, all := roomy(n, byte(i))
			was := slices.Clone(all)
			list := []Write{{Key: "a", Value: value, Version: p.number}, {Key: "b", Value: value, Version: p.number}, lay("spare", "", 0)}
			q, _, _ := p.commit(Write{Key: "a", Value: was[:n], Version: p.number}, Write{Key: "b", Value: was[:n], Version: p.number})
			_, e := s.Commit(list[:2]...)
			answers(t, "Commit", e, api.OK)
			if !bytes.Equal(all, was) || list[2].Key != "spare" || list[0].Key != "a" || list[1].Key != "b" || list[0].Version != p.number || list[1].Version != p.number || list[0].Drop || &all[0] != &list[0].Value[:1][0] {
				t.Fatal("Commit has changed what it was given")
			}
			turn(all)
			list[0], list[1] = Write{Key: "x"}, Write{Key: "y", Drop: true}
			p = q
			is(t, "Commit", s, d, p)
		}
		reopened(t, "opened", d, p)
	}
}

// TestAnswers: what Get and Range give may be changed, and shares no memory.
func TestAnswers(t *testing.T) {
	list := []Write{lay("a", "one", 0), lay("b", "two", 0), lay("c", "", 0), sized("d", 200, 0)}
	s, d, p := opensTo(t, "opened", 20, bytesOf(1, list...))
	for _, name := range []string{"opened", "committed", "renewed"} {
		if name != "opened" {
			for i := range list {
				list[i].Version = p.pairs[list[i].Key].Version
			}
			p = does(t, name, s, d, p, api.OK, list...)
		}
		for name == "renewed" && p.generation == 7 {
			p = does(t, name, s, d, p, api.OK, lay("c", "", p.pairs["c"].Version))
		}
		var values [][]byte
		for range 2 {
			for _, x := range s.Range("", "") {
				values = append(values, x.Value)
			}
			for k := range p.pairs {
				v, _, _ := s.Get(k)
				values = append(values, v)
			}
		}
		for i, v := range values {
			others := slices.Concat(values[:i:i], values[i+1:])
			was := slices.Concat(others...)
			turn(v)
			if !bytes.Equal(slices.Concat(others...), was) {
				t.Fatalf("%s: two answers share memory", name)
			}
			turn(v)
		}
		for _, v := range values {
			turn(v)
		}
		pairs := s.Range("a", "c")
		pairs[0], pairs[1] = Pair{}, Pair{}
		is(t, name, s, d, p)
		p = does(t, name, s, d, p, api.OK, lay("e", "5", p.pairs["e"].Version))
		s, p = reopened(t, name, d, p)
	}
}
