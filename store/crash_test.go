package store

import (
	"fmt"
	"math/rand"
	"slices"
	"testing"

	"jetway/api"
	"jetway/disk"
)

// P6.5: the power.

// cutOpenings opens a disk, cut in each step of it, with choices of what is kept, and tells if an opening behind that doesn't find the plain store.
func cutOpenings(t *testing.T, name string, d *disk.Disk, p plain, draw *rand.Rand) {
	t.Helper()
	for at := range p.opening() {
		cut := d.Clone()
		answers(t, name, cut.Fuse(at), api.OK)
		unopened(t, name, cut, api.ErrDown)
		subsets(cut.Waiting(), 4, draw, func(keep []bool) {
			own := cut.Clone()
			own.Restart(keep...)
			tells(t, fmt.Sprintf("%s, opened, cut at %d, kept %v", name, at, keep), open(t, name, own), p)
		})
	}
}

// cutCommit cuts a commit in each step of it, with choices of what is kept: behind that just what was there ahead of it is opened, or just what would be behind it.
func cutCommit(t *testing.T, name string, d *disk.Disk, p plain, list []Write, draw *rand.Rand) {
	t.Helper()
	p.generation++
	q, _, e := p.commit(list...)
	answers(t, name, e, api.OK)
	steps := p.steps(q)
	seen := map[bool]int{}
	for at := range steps {
		cut := d.Clone()
		s := open(t, name, cut)
		answers(t, name, cut.Fuse(at), api.OK)
		if n, e := s.Commit(list...); n != 0 || e != api.ErrDown {
			t.Fatalf("%s, cut at %d: %d, %v", name, at, n, e)
		}
		tells(t, name, s, p)
		subsets(cut.Waiting(), 30, draw, func(keep []bool) {
			own := cut.Clone()
			own.Restart(keep...)
			// Of an append all pieces must have lasted, of a renewal the head, ahead of which they are flushed.
			want, whole := p, !slices.Contains(keep, false) && len(keep) == steps-1
			if q.generation != p.generation {
				whole = at >= steps-2 && keep[0]
			}
			if whole {
				want = q
			}
			seen[whole]++
			text := fmt.Sprintf("%s, cut at %d, kept %v", name, at, keep)
			tells(t, text, open(t, text, own.Clone()), want)
			if seen[whole] == 1 {
				cutOpenings(t, text, own, want, draw)
			}
		})
	}
	if seen[true] == 0 || seen[false] == 0 {
		t.Errorf("%s: %v", name, seen)
	}
	// What was answered OK is there, whatever is kept of the writes that wait: none of them do.
	s := open(t, name, d)
	answers(t, name, d.Fuse(steps), api.OK)
	if n, e := s.Commit(list...); n != q.number || e != api.OK {
		t.Fatalf("%s, with %d steps: %d, %v", name, steps, n, e)
	}
	d.Restart()
	lies(t, name, d, q)
	cutOpenings(t, name, d, q, draw)
	reopened(t, name, d, q)
}

func TestPower(t *testing.T) {
	draw := rand.New(rand.NewSource(65))
	held := []Write{lay("a", "1", 0), sized("b", 700, 0), lay("c", "3", 0)}
	for name, list := range map[string][]Write{
		"one key":        {lay("d", "4", 0)},
		"a key anew":     {lay("a", "", 1)},
		"a drop":         {drop("b", 1)},
		"all dropped":    {drop("a", 1), drop("b", 1), drop("c", 1)},
		"two sectors":    {sized("a", 484, 1), lay("e", "5", 0)},
		"three sectors":  {sized("e", 1000, 0), drop("c", 1)},
		"five sectors":   {sized("e", 2000, 0), sized("f", 100, 0), drop("b", 1)},
		"eight sectors":  {sized("e", 3600, 0), drop("b", 1)},
		"a full record":  {sized("e", 4000, 0), sized("f", 4000, 0), lay("g", "", 0), drop("b", 1), drop("c", 1)},
		"drops and keys": slices.Concat([]Write{drop("a", 1), drop("b", 1), drop("c", 1)}, many(5)),
		"a key for each": {lay("a", "A", 1), lay("b", "B", 1), lay("c", "C", 1), lay("d", "D", 0)},
	} {
		area := 22
		for _, full := range []bool{false, true} {
			s, d, p := opened(t, 2+2*area, 3)
			p = does(t, name, s, d, p, api.OK, held...)
			for n := 0; full && sectorsOf(p.records...) < area; n++ {
				p = does(t, name, s, d, p, api.OK, lay("z", "", p.pairs["z"].Version))
			}
			q, _, _ := p.commit(list...)
			if full != (q.generation != p.generation) {
				t.Fatalf("%s: the log is renewed: %v", name, !full)
			}
			cutCommit(t, fmt.Sprintf("%s, renewed: %v", name, full), d, p, list, draw)
		}
	}
}

// TestPowerFirst: the first batch of a disk, appended.
func TestPowerFirst(t *testing.T) {
	draw := rand.New(rand.NewSource(66))
	for _, size := range []int{6, 12, 30} {
		_, d, p := opened(t, size, 1)
		cutCommit(t, fmt.Sprint("a disk of ", size), d, p, []Write{lay("a", "1", 0)}, draw)
	}
}

// TestPowerDrawn: long rows, in which the power goes off in commits and in openings.
func TestPowerDrawn(t *testing.T) {
	draw := rand.New(rand.NewSource(67))
	keys := []string{"a", "b", "c", "d", "e", "f"}
	keep := func(d *disk.Disk) []bool {
		list := make([]bool, draw.Intn(d.Waiting()+2))
		for i := range list {
			list[i] = draw.Intn(4) > 0
		}
		return list
	}
	was, is := 0, 0
	for _, size := range []int{8, 12, 20, 40} {
		s, d, p := opened(t, size, 1)
		for range 600 {
			var list []Write
			for _, i := range draw.Perm(len(keys))[:1+draw.Intn(3)] {
				x, there := p.pairs[keys[i]]
				list = append(list, Write{keys[i], mixed(draw.Intn(800), byte(draw.Intn(256))), there && draw.Intn(2) == 0, x.Version})
			}
			q, number, want := p.commit(list...)
			fused := draw.Intn(3) == 0
			if fused {
				answers(t, "Fuse", d.Fuse(draw.Intn(12)), api.OK)
			}
			n, e := s.Commit(list...)
			if e == want {
				if n != number {
					t.Fatalf("%d, not %d", n, number)
				}
				p = q
				tells(t, "done", s, p)
			} else if !fused || e != api.ErrDown || want != api.OK || n != 0 {
				t.Fatalf("%d, %v, not %v", n, e, want)
			}
			if !fused {
				continue
			}
			d.Restart(keep(d)...)
			for draw.Intn(2) == 0 {
				answers(t, "Fuse", d.Fuse(draw.Intn(sectorsOf(p.image()...)+3)), api.OK)
				if again, e := Open(d); (again == nil) != (e == api.ErrDown) || e != api.OK && e != api.ErrDown {
					t.Fatalf("opened with a fuse: %v, %v", again, e)
				}
				d.Restart(keep(d)...)
			}
			s = open(t, "behind the power", d)
			switch {
			case like(s, p) == "":
				was++
			case e == api.ErrDown && like(s, q) == "":
				is++
				p = q
			default:
				t.Fatalf("neither what was there (%s) nor what would be (%s)", like(s, p), like(s, q))
			}
			// The generation hangs on what the power has left of others: layer 5 tells it.
			p.generation, p.records = s.log.Generation(), s.log.Records()
		}
	}
	if was < 50 || is < 20 {
		t.Errorf("%d times as it was, %d times as it would be", was, is)
	}
}
