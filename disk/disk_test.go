package disk

import (
	"bytes"
	"fmt"
	"math"
	"math/rand"
	"testing"

	"jetway/api"
)

// full: a sector of one byte, over and over.
func full(c byte) []byte { return bytes.Repeat([]byte{c}, api.SectorSize) }

// mixed: a sector that has no two halves, quarters and so on alike, other for each seed.
func mixed(seed byte) []byte {
	b := make([]byte, api.SectorSize)
	for i := range b {
		b[i] = byte(i) ^ byte(i>>8)*37 ^ seed
	}
	return b
}

// fresh: a disk of n sectors.
func fresh(t *testing.T, n int) *Disk {
	t.Helper()
	d, e := New(n)
	if e != api.OK || d == nil {
		t.Fatalf("New(%d) is %v, %v", n, d, e)
	}
	return d
}

// done tells if a call hasn't answered OK.
func done(t *testing.T, name string, e api.Errno) {
	t.Helper()
	if e != api.OK {
		t.Fatalf("%s: %v", name, e)
	}
}

// refused tells if a call hasn't answered this error.
func refused(t *testing.T, name string, got, want api.Errno) {
	t.Helper()
	if got != want {
		t.Fatalf("%s: %v, not %v", name, got, want)
	}
}

// holds tells if a sector hasn't these bytes.
func holds(t *testing.T, d *Disk, i int, want []byte) {
	t.Helper()
	got, e := d.Read(i)
	if e != api.OK {
		t.Fatalf("Read(%d): %v", i, e)
	}
	if !bytes.Equal(got, want) {
		t.Fatalf("sector %d is %v .., not %v ..", i, got[:min(4, len(got))], want[:4])
	}
}

// waits tells if another number of writes waits.
func waits(t *testing.T, d *Disk, want int) {
	t.Helper()
	if got := d.Waiting(); got != want {
		t.Fatalf("%d writes wait, not %d", got, want)
	}
}

// isDown tells if the power isn't as it must be.
func isDown(t *testing.T, d *Disk, want bool) {
	t.Helper()
	if got := d.Down(); got != want {
		t.Fatalf("Down is %v", got)
	}
}

// unread tells if Read doesn't answer this error, and no bytes.
func unread(t *testing.T, d *Disk, i int, want api.Errno) {
	t.Helper()
	if b, e := d.Read(i); e != want || len(b) != 0 {
		t.Fatalf("Read(%d): %d bytes, %v, not %v", i, len(b), e, want)
	}
}

// The chapter's examples.

func TestExamples(t *testing.T) {
	a, b := full('A'), full('B')
	d := fresh(t, 2)
	done(t, "Write(0, A)", d.Write(0, a))
	done(t, "Flush", d.Flush())
	done(t, "Write(0, B)", d.Write(0, b))
	done(t, "Write(1, B)", d.Write(1, b))
	d.Restart(false, true)
	holds(t, d, 0, a)
	holds(t, d, 1, b)
	done(t, "Fuse(1)", d.Fuse(1))
	done(t, "Write(0, B)", d.Write(0, b))
	refused(t, "Write(1, A)", d.Write(1, a), api.ErrDown)
	waits(t, d, 2)
	unread(t, d, 0, api.ErrDown)
}

// P4.1.

func TestNewRange(t *testing.T) {
	for _, n := range []int{math.MinInt, -4096, -1, 0, 4097, 8192, math.MaxInt} {
		if d, e := New(n); d != nil || e != api.ErrRange {
			t.Errorf("New(%d) is %v, %v", n, d, e)
		}
	}
}

func TestNewSectors(t *testing.T) {
	for _, n := range []int{1, 2, 3, 511, 512, 513, 4095, 4096} {
		d := fresh(t, n)
		if d.Size() != n {
			t.Errorf("a disk of %d sectors has the size %d", n, d.Size())
		}
		waits(t, d, 0)
		isDown(t, d, false)
		for i := range n {
			holds(t, d, i, full(0))
		}
	}
}

func TestSizeStays(t *testing.T) {
	d := fresh(t, 7)
	check := func(name string) {
		t.Helper()
		if d.Size() != 7 {
			t.Errorf("%s: the size is %d", name, d.Size())
		}
	}
	done(t, "Write", d.Write(6, full(1)))
	check("a write")
	d.Cut()
	check("a cut")
	d.Restart(true)
	check("a restart")
	d.Write(7, full(1))
	d.Flush()
	check("a flush")
}

// outside: places that a disk of n sectors doesn't have.
func outside(n int) []int {
	return []int{math.MinInt, -n, -2, -1, n, n + 1, n + 512, math.MaxInt}
}

func TestPlaces(t *testing.T) {
	for _, n := range []int{1, 2, 5, 4096} {
		d := fresh(t, n)
		for _, i := range outside(n) {
			unread(t, d, i, api.ErrRange)
			refused(t, "Write", d.Write(i, full(9)), api.ErrRange)
		}
		waits(t, d, 0)
		for _, i := range []int{0, n - 1} {
			done(t, "Write", d.Write(i, mixed(byte(i))))
			holds(t, d, i, mixed(byte(i)))
		}
		waits(t, d, 2)
	}
}

func TestEverySectorIsItsOwn(t *testing.T) {
	d := fresh(t, 4096)
	text := func(i int) []byte {
		b := mixed(byte(i))
		b[0], b[511] = byte(i>>8), byte(i>>4)
		return b
	}
	for i := range 4096 {
		done(t, "Write", d.Write(i, text(i)))
	}
	waits(t, d, 4096)
	for i := range 4096 {
		holds(t, d, i, text(i))
	}
	done(t, "Flush", d.Flush())
	waits(t, d, 0)
	for i := range 4096 {
		holds(t, d, i, text(i))
	}
}

func TestWriteSizes(t *testing.T) {
	d := fresh(t, 1)
	for _, b := range [][]byte{nil, {}, {1}, full(1)[:511], append(full(1), 1), make([]byte, 1024), make([]byte, 4096)} {
		refused(t, fmt.Sprint(len(b), " bytes"), d.Write(0, b), api.ErrSize)
	}
	waits(t, d, 0)
	holds(t, d, 0, full(0))
	done(t, "512 bytes", d.Write(0, mixed(1)))
	refused(t, "511 bytes", d.Write(0, full(2)[:511]), api.ErrSize)
	waits(t, d, 1)
	holds(t, d, 0, mixed(1))
}

func TestLastWriteIsRead(t *testing.T) {
	d := fresh(t, 3)
	for k := range 20 {
		done(t, "Write", d.Write(k%2, mixed(byte(k))))
		holds(t, d, k%2, mixed(byte(k)))
		waits(t, d, k+1)
		if k > 0 {
			holds(t, d, 1-k%2, mixed(byte(k-1)))
		}
		holds(t, d, 2, full(0))
	}
}

func TestFlush(t *testing.T) {
	d := fresh(t, 2)
	done(t, "a flush of nothing", d.Flush())
	waits(t, d, 0)
	for k := range 5 {
		done(t, "Write", d.Write(0, full(byte(k))))
	}
	waits(t, d, 5)
	done(t, "Flush", d.Flush())
	waits(t, d, 0)
	holds(t, d, 0, full(4))
	done(t, "a second flush", d.Flush())
	holds(t, d, 0, full(4))
	done(t, "Write", d.Write(1, full(7)))
	waits(t, d, 1)
	holds(t, d, 0, full(4))
}

func TestDownRefuses(t *testing.T) {
	d := fresh(t, 2)
	done(t, "Write", d.Write(0, full(1)))
	d.Cut()
	isDown(t, d, true)
	unread(t, d, 0, api.ErrDown)
	unread(t, d, 1, api.ErrDown)
	refused(t, "Write", d.Write(0, full(2)), api.ErrDown)
	refused(t, "Flush", d.Flush(), api.ErrDown)
	refused(t, "Fuse", d.Fuse(0), api.ErrDown)
	refused(t, "Fuse", d.Fuse(3), api.ErrDown)
	waits(t, d, 1)
	if d.Size() != 2 {
		t.Errorf("Size is %d", d.Size())
	}
	d.Restart(true, true)
	isDown(t, d, false)
	holds(t, d, 0, full(1))
	for range 5 {
		done(t, "a flush behind refused fuses", d.Flush())
	}
}

// Which error comes first.
func TestFirstError(t *testing.T) {
	d := fresh(t, 2)
	both := func() {
		t.Helper()
		for _, i := range outside(2) {
			for _, b := range [][]byte{nil, full(1)[1:], append(full(1), 1)} {
				refused(t, "neither place nor size", d.Write(i, b), api.ErrRange)
			}
		}
	}
	both()
	d.Cut()
	both()
	for _, i := range outside(2) {
		unread(t, d, i, api.ErrRange)
		refused(t, "no such place, and down", d.Write(i, full(1)), api.ErrRange)
	}
	for _, b := range [][]byte{nil, full(1)[1:], append(full(1), 1)} {
		refused(t, "no such size, and down", d.Write(1, b), api.ErrSize)
	}
	for _, after := range []int{math.MinInt, -1} {
		refused(t, "a fuse below 0, and down", d.Fuse(after), api.ErrRange)
	}
	waits(t, d, 0)
}

// What was given and what was read may be changed by the caller.
func TestMemoryIsApart(t *testing.T) {
	d := fresh(t, 2)
	whole := bytes.Repeat([]byte{0xAA}, api.SectorSize+64)
	b := whole[:copy(whole, mixed(3))]
	done(t, "Write", d.Write(0, b))
	if !bytes.Equal(b, mixed(3)) || !bytes.Equal(whole[len(b):], bytes.Repeat([]byte{0xAA}, 64)) {
		t.Error("what was written was changed")
	}
	spoil := func(b []byte) {
		b = b[:cap(b)]
		for i := range b {
			b[i] ^= 0xFF
		}
	}
	spoil(b)
	holds(t, d, 0, mixed(3))
	check := func(name string) {
		t.Helper()
		for i, want := range [][]byte{mixed(3), full(0)} {
			one, _ := d.Read(i)
			two, _ := d.Read(i)
			spoil(one)
			if !bytes.Equal(two, want) {
				t.Errorf("%s: two answers of sector %d share memory", name, i)
			}
			spoil(two)
			holds(t, d, i, want)
		}
	}
	check("while it waits")
	done(t, "Flush", d.Flush())
	check("behind a flush")
	d.Restart()
	check("behind a restart")
	done(t, "Write", d.Write(0, mixed(3)))
	d.Restart(true)
	check("behind a restart that keeps it")
}

// One memory that is written over and over, as a caller's buffer may be.
func TestOneBuffer(t *testing.T) {
	d := fresh(t, 3)
	b := make([]byte, api.SectorSize)
	for k := range 6 {
		copy(b, full(byte(k+1)))
		done(t, "Write", d.Write(k%3, b))
	}
	copy(b, full(99))
	d.Restart(true, true, true, false, true)
	for i, c := range []byte{1, 5, 3} {
		holds(t, d, i, full(c))
	}
}

func TestTwoDisks(t *testing.T) {
	one, two := fresh(t, 2), fresh(t, 2)
	done(t, "Write", one.Write(0, full(1)))
	done(t, "Fuse", one.Fuse(0))
	holds(t, two, 0, full(0))
	waits(t, two, 0)
	done(t, "Flush", two.Flush())
	one.Cut()
	isDown(t, two, false)
}

func TestCloneIsLikeIt(t *testing.T) {
	d := fresh(t, 3)
	done(t, "Write", d.Write(0, full(1)))
	done(t, "Flush", d.Flush())
	done(t, "Write", d.Write(0, full(2)))
	done(t, "Write", d.Write(1, full(3)))
	done(t, "Fuse", d.Fuse(1))
	c := d.Clone()
	if c.Size() != 3 {
		t.Errorf("Size is %d", c.Size())
	}
	waits(t, c, 2)
	isDown(t, c, false)
	for i, b := range []byte{2, 3, 0} {
		holds(t, c, i, full(b))
	}
	done(t, "a write within the clone's fuse", c.Write(2, full(4)))
	refused(t, "a write behind it", c.Write(2, full(5)), api.ErrDown)
	waits(t, c, 4)
	c.Restart(false, true, false, true)
	for i, b := range []byte{1, 3, 5} {
		holds(t, c, i, full(b))
	}

	waits(t, d, 2)
	isDown(t, d, false)
	for i, b := range []byte{2, 3, 0} {
		holds(t, d, i, full(b))
	}
	done(t, "a flush within the fuse", d.Flush())
	refused(t, "a flush behind it", d.Flush(), api.ErrDown)
}

func TestCloneOfDown(t *testing.T) {
	d := fresh(t, 2)
	done(t, "Write", d.Write(1, full(1)))
	d.Cut()
	c := d.Clone()
	isDown(t, c, true)
	waits(t, c, 1)
	unread(t, c, 1, api.ErrDown)
	c.Restart(true)
	isDown(t, c, false)
	holds(t, c, 1, full(1))
	isDown(t, d, true)
	waits(t, d, 1)
	d.Restart()
	holds(t, d, 1, full(0))
	holds(t, c, 1, full(1))
}

// A clone and its disk go their own ways, whichever of both goes first.
func TestCloneGoesItsOwnWay(t *testing.T) {
	for _, swap := range []bool{false, true} {
		d := fresh(t, 2)
		done(t, "Write", d.Write(0, full(1)))
		done(t, "Flush", d.Flush())
		for k := range 5 {
			done(t, "Write", d.Write(1, full(byte(k+10))))
		}
		c := d.Clone()
		if swap {
			d, c = c, d
		}
		// Both put a write behind the five, in what may be the spare room of one memory.
		done(t, "Write", d.Write(0, full(2)))
		done(t, "Write", c.Write(0, full(3)))
		holds(t, d, 0, full(2))
		holds(t, c, 0, full(3))
		done(t, "Flush", c.Flush())
		waits(t, d, 6)
		waits(t, c, 0)
		done(t, "Fuse", c.Fuse(0))
		done(t, "Flush, the other one being fused", d.Flush())
		refused(t, "Flush", c.Flush(), api.ErrDown)
		isDown(t, d, false)
		d.Cut()
		c.Restart()
		isDown(t, d, true)
		isDown(t, c, false)
		d.Restart()
		holds(t, d, 0, full(2))
		holds(t, c, 0, full(3))
		done(t, "Write", c.Write(1, full(4)))
		holds(t, d, 1, full(14))
		done(t, "Flush", c.Flush())
		holds(t, d, 1, full(14))
	}
}

// P4.2.

func TestFuseCounts(t *testing.T) {
	for after := range 12 {
		for last := range 2 {
			d := fresh(t, 2)
			done(t, "Fuse", d.Fuse(after))
			writes := 0
			for k := range after {
				if k%3 == 2 {
					done(t, "Flush", d.Flush())
					writes = 0
				} else {
					done(t, "Write", d.Write(k%2, full(byte(k))))
					writes++
				}
				isDown(t, d, false)
				waits(t, d, writes)
			}
			if last == 0 {
				refused(t, "the write", d.Write(1, full(77)), api.ErrDown)
				writes++
			} else {
				refused(t, "the flush", d.Flush(), api.ErrDown)
			}
			isDown(t, d, true)
			waits(t, d, writes)
			refused(t, "a write behind it", d.Write(0, full(78)), api.ErrDown)
			refused(t, "a flush behind it", d.Flush(), api.ErrDown)
			unread(t, d, 0, api.ErrDown)
			waits(t, d, writes)
		}
	}
}

func TestFuseGreatest(t *testing.T) {
	d := fresh(t, 1)
	done(t, "Fuse", d.Fuse(math.MaxInt))
	for k := range 300 {
		done(t, "Write", d.Write(0, full(byte(k))))
		done(t, "Flush", d.Flush())
	}
	isDown(t, d, false)
}

func TestFuseDoesNotCountRefused(t *testing.T) {
	d := fresh(t, 2)
	done(t, "Fuse", d.Fuse(1))
	refuse := func() {
		t.Helper()
		refused(t, "Write", d.Write(2, full(1)), api.ErrRange)
		refused(t, "Write", d.Write(-1, nil), api.ErrRange)
		refused(t, "Write", d.Write(0, nil), api.ErrSize)
		refused(t, "Write", d.Write(1, full(1)[1:]), api.ErrSize)
		unread(t, d, 2, api.ErrRange)
		refused(t, "Fuse", d.Fuse(-1), api.ErrRange)
		isDown(t, d, false)
	}
	refuse()
	refuse()
	done(t, "the one that is let through", d.Write(0, full(1)))
	refuse()
	holds(t, d, 0, full(1))
	waits(t, d, 1)
	isDown(t, d, false)
	refused(t, "the next one", d.Flush(), api.ErrDown)
}

func TestSecondFuse(t *testing.T) {
	for first := range 4 {
		for second := range 4 {
			d := fresh(t, 1)
			done(t, "Fuse", d.Fuse(first))
			if first > 0 {
				done(t, "Write", d.Write(0, full(1)))
			}
			done(t, "Fuse", d.Fuse(second))
			for range second {
				done(t, "Flush", d.Flush())
			}
			refused(t, "Flush", d.Flush(), api.ErrDown)
		}
	}
}

func TestFuseBelowNought(t *testing.T) {
	for _, after := range []int{-1, -2, math.MinInt} {
		d := fresh(t, 1)
		refused(t, "Fuse", d.Fuse(after), api.ErrRange)
		for range 4 {
			done(t, "Flush, without a fuse", d.Flush())
		}
		done(t, "Fuse", d.Fuse(2))
		refused(t, "Fuse", d.Fuse(after), api.ErrRange)
		done(t, "Flush, the earlier fuse still in place", d.Flush())
		done(t, "Flush, the earlier fuse still in place", d.Flush())
		refused(t, "Flush, the earlier fuse still in place", d.Flush(), api.ErrDown)
	}
}

func TestFlushInWhichThePowerGoesOff(t *testing.T) {
	d := fresh(t, 2)
	done(t, "Write", d.Write(0, full(1)))
	done(t, "Write", d.Write(1, full(2)))
	done(t, "Fuse", d.Fuse(0))
	refused(t, "Flush", d.Flush(), api.ErrDown)
	waits(t, d, 2)
	d.Restart(false, true)
	holds(t, d, 0, full(0))
	holds(t, d, 1, full(2))
}

func TestWriteInWhichThePowerGoesOff(t *testing.T) {
	for _, kept := range []bool{false, true} {
		d := fresh(t, 2)
		done(t, "Write", d.Write(0, full(1)))
		done(t, "Fuse", d.Fuse(0))
		refused(t, "Write", d.Write(0, full(2)), api.ErrDown)
		waits(t, d, 2)
		d.Restart(true, kept)
		want := full(1)
		if kept {
			want = full(2)
		}
		holds(t, d, 0, want)
		waits(t, d, 0)
	}
}

func TestCut(t *testing.T) {
	d := fresh(t, 1)
	done(t, "Write", d.Write(0, full(1)))
	d.Cut()
	isDown(t, d, true)
	d.Cut()
	isDown(t, d, true)
	waits(t, d, 1)
	d.Restart(true)
	holds(t, d, 0, full(1))
	done(t, "Fuse", d.Fuse(0))
	d.Cut()
	d.Restart()
	done(t, "Flush, the fuse being gone", d.Flush())
}

// P4.3.

func TestRestartOfOneThatIsOn(t *testing.T) {
	d := fresh(t, 2)
	done(t, "Write", d.Write(0, full(1)))
	done(t, "Write", d.Write(1, full(2)))
	isDown(t, d, false)
	d.Restart(true)
	isDown(t, d, false)
	waits(t, d, 0)
	holds(t, d, 0, full(1))
	holds(t, d, 1, full(0))
}

func TestRestartTakesTheFuseAway(t *testing.T) {
	for after := range 3 {
		d := fresh(t, 1)
		done(t, "Fuse", d.Fuse(after))
		d.Restart()
		for range 5 {
			done(t, "Flush", d.Flush())
		}
		done(t, "Fuse", d.Fuse(0))
		refused(t, "Flush", d.Flush(), api.ErrDown)
		d.Restart(true, false)
		for range 5 {
			done(t, "Write", d.Write(0, full(1)))
		}
	}
}

// A second restart keeps nothing of what an earlier one has lost or done.
func TestRestartTwice(t *testing.T) {
	d := fresh(t, 2)
	done(t, "Write", d.Write(0, full(1)))
	done(t, "Write", d.Write(1, full(2)))
	d.Restart(true)
	d.Restart(true, true, true)
	holds(t, d, 0, full(1))
	holds(t, d, 1, full(0))
	done(t, "Write", d.Write(0, full(3)))
	d.Restart(false, true)
	holds(t, d, 0, full(1))
}

func TestRestartOfNothing(t *testing.T) {
	d := fresh(t, 1)
	d.Restart()
	d.Restart(true, true)
	d.Restart(nil...)
	d.Restart([]bool{}...)
	holds(t, d, 0, full(0))
	waits(t, d, 0)
	isDown(t, d, false)
}

func TestRestartLeavesTheChoice(t *testing.T) {
	d := fresh(t, 1)
	done(t, "Write", d.Write(0, full(1)))
	whole := []bool{true, false, true, true}
	keep := whole[:2]
	d.Restart(keep...)
	if fmt.Sprint(whole) != "[true false true true]" {
		t.Errorf("the choice is now %v", whole)
	}
	keep[0] = false
	holds(t, d, 0, full(1))
	// The choice was for that restart alone.
	done(t, "Write", d.Write(0, full(2)))
	d.Restart()
	holds(t, d, 0, full(1))
}

// choices: all lists of k bools.
func choices(k int) [][]bool {
	out := [][]bool{nil}
	for range k {
		var more [][]bool
		for _, c := range out {
			more = append(more, append(append([]bool{}, c...), false), append(append([]bool{}, c...), true))
		}
		out = more
	}
	return out
}

// Every choice, shorter and longer than what waits too, of writes that go to two sectors in turn, by a
// cut, by a fuse or while the power is on.
func TestRestartEveryChoice(t *testing.T) {
	places := []int{0, 1, 0, 0, 1}
	for k := range 8 {
		for _, keep := range choices(k) {
			for how := range 3 {
				d := fresh(t, 3)
				want := []byte{100, 101, 0}
				done(t, "Write", d.Write(0, full(100)))
				done(t, "Write", d.Write(1, full(101)))
				done(t, "Flush", d.Flush())
				if how == 2 {
					done(t, "Fuse", d.Fuse(len(places)-1))
				}
				for n, i := range places {
					d.Write(i, full(byte(n+1)))
					if n < len(keep) && keep[n] {
						want[i] = byte(n + 1)
					}
				}
				if how == 1 {
					d.Cut()
				}
				isDown(t, d, how > 0)
				waits(t, d, len(places))
				d.Restart(keep...)
				isDown(t, d, false)
				waits(t, d, 0)
				for i, c := range want {
					holds(t, d, i, full(c))
				}
			}
		}
	}
}

// P4.4.

// Behind a restart each sector is as it was at the last flush, or as a write behind it has laid it; with
// no choice, just as at the flush.
func TestFlushedIsThere(t *testing.T) {
	r := rand.New(rand.NewSource(44))
	for round := range 400 {
		d := fresh(t, 4)
		var flushed [4]byte
		var since [4]map[byte]bool
		begin := func() {
			for i := range since {
				since[i] = map[byte]bool{flushed[i]: true}
			}
		}
		begin()
		now := flushed
		for k := range 1 + r.Intn(30) {
			if r.Intn(5) == 0 {
				done(t, "Flush", d.Flush())
				flushed = now
				begin()
				continue
			}
			i, c := r.Intn(4), byte(k+1)
			done(t, "Write", d.Write(i, full(c)))
			now[i] = c
			since[i][c] = true
		}
		if round%2 == 0 {
			done(t, "Fuse", d.Fuse(0))
			refused(t, "Flush", d.Flush(), api.ErrDown)
		}
		none := d.Clone()
		none.Restart()
		var keep []bool
		for range r.Intn(35) {
			keep = append(keep, r.Intn(2) == 0)
		}
		d.Restart(keep...)
		for i := range since {
			holds(t, none, i, full(flushed[i]))
			b, e := d.Read(i)
			if e != api.OK || !since[i][b[0]] || !bytes.Equal(b, full(b[0])) {
				t.Fatalf("round %d: sector %d is %d .., %v; may be %v", round, i, b[0], e, since[i])
			}
		}
	}
}

// A disk as the chapter tells it, of all that has happened to it: what it holds is worked out anew each
// time. Sectors are told by their first byte.

type step struct {
	place int
	c     byte
}

type model struct {
	size  int
	done  []step // for good
	wait  []step
	fuse  int // below 0: none
	power bool
}

func (m *model) spend() bool {
	if m.fuse == 0 {
		m.power = false
	}
	m.fuse--
	return m.power
}

func (m *model) at(i int) byte {
	c := byte(0)
	for _, list := range [][]step{m.done, m.wait} {
		for _, s := range list {
			if s.place == i {
				c = s.c
			}
		}
	}
	return c
}

func (m *model) write(i, size int, c byte) api.Errno {
	if i < 0 || i >= m.size {
		return api.ErrRange
	}
	if size != 512 {
		return api.ErrSize
	}
	if !m.power {
		return api.ErrDown
	}
	on := m.spend()
	m.wait = append(m.wait, step{i, c})
	if !on {
		return api.ErrDown
	}
	return api.OK
}

func (m *model) flush() api.Errno {
	if !m.power || !m.spend() {
		return api.ErrDown
	}
	m.done = append(m.done, m.wait...)
	m.wait = nil
	return api.OK
}

func (m *model) setFuse(after int) api.Errno {
	if after < 0 {
		return api.ErrRange
	}
	if !m.power {
		return api.ErrDown
	}
	m.fuse = after
	return api.OK
}

func (m *model) restart(keep []bool) {
	for k, s := range m.wait {
		if k < len(keep) && keep[k] {
			m.done = append(m.done, s)
		}
	}
	m.wait, m.fuse, m.power = nil, -1, true
}

func (m *model) clone() *model {
	like := *m
	like.done = append([]step{}, m.done...)
	like.wait = append([]step{}, m.wait...)
	return &like
}

// compare tells whether the disk is as the model says.
func compare(d *Disk, m *model) error {
	if d.Down() != !m.power || d.Waiting() != len(m.wait) || d.Size() != m.size {
		return fmt.Errorf("down %v, waiting %d, size %d; the model: power %v, %d wait, size %d", d.Down(), d.Waiting(), d.Size(), m.power, len(m.wait), m.size)
	}
	for i := -1; i <= m.size; i++ {
		b, e := d.Read(i)
		want, c := api.OK, byte(0)
		switch {
		case i < 0 || i >= m.size:
			want = api.ErrRange
		case !m.power:
			want = api.ErrDown
		default:
			c = m.at(i)
		}
		if e != want || want != api.OK && len(b) != 0 || want == api.OK && !bytes.Equal(b, full(c)) {
			return fmt.Errorf("Read(%d) is %d bytes, %v; the model: %d .., %v", i, len(b), e, c, want)
		}
	}
	return nil
}

// act does one of a few things to both, which a number chooses, and tells their errors.
func act(d *Disk, m *model, what int, c byte) (string, api.Errno, api.Errno) {
	switch what {
	case 0, 1:
		return fmt.Sprintf("Write(%d)", what), d.Write(what, full(c)), m.write(what, 512, c)
	case 2:
		return "Flush", d.Flush(), m.flush()
	case 3, 4:
		return fmt.Sprintf("Fuse(%d)", what-3), d.Fuse(what - 3), m.setFuse(what - 3)
	case 5:
		d.Restart(false, true)
		m.restart([]bool{false, true})
		return "Restart(false, true)", api.OK, api.OK
	case 6:
		d.Cut()
		m.power = false
		return "Cut", api.OK, api.OK
	case 7:
		return "Write(2)", d.Write(2, full(c)), m.write(2, 512, c)
	case 8:
		return "Write of 511", d.Write(0, full(c)[1:]), m.write(0, 511, c)
	case 9:
		d.Restart(true, false, true)
		m.restart([]bool{true, false, true})
		return "Restart(true, false, true)", api.OK, api.OK
	case 10:
		return "Fuse(-1)", d.Fuse(-1), m.setFuse(-1)
	case 11:
		return "Write(-1)", d.Write(-1, nil), m.write(-1, 0, c)
	}
	return "Fuse(7)", d.Fuse(7), m.setFuse(7)
}

// Every row of a few things, in every order: the disk is cloned at each fork, so that clones are tested, too.
func TestEveryRow(t *testing.T) {
	var walk func(d *Disk, m *model, row string, left int)
	walk = func(d *Disk, m *model, row string, left int) {
		if left == 0 {
			return
		}
		for what := range 9 {
			d, m := d.Clone(), m.clone()
			name, got, want := act(d, m, what, byte(10*left+what))
			name = row + " " + name
			if got != want {
				t.Fatalf("%s: %v, not %v", name, got, want)
			}
			if e := compare(d, m); e != nil {
				t.Fatalf("%s: %v", name, e)
			}
			walk(d, m, name, left-1)
		}
	}
	walk(fresh(t, 2), &model{size: 2, fuse: -1, power: true}, "", 5)
}

// Long rows of all things, on disks of one sector and of more, now and then going on with the clone
// and now and then with the disk that was cloned.
func TestLongRows(t *testing.T) {
	r := rand.New(rand.NewSource(4))
	for round := range 300 {
		size := 1 + round%3
		d, m := fresh(t, size), &model{size: size, fuse: -1, power: true}
		var others []*Disk
		var models []*model
		for k := range 80 {
			if r.Intn(10) == 0 {
				d2, m2 := d.Clone(), m.clone()
				if r.Intn(2) == 0 {
					d, d2 = d2, d
				}
				others, models = append(others, d2), append(models, m2)
			}
			name, got, want := act(d, m, r.Intn(13), byte(k+1))
			if got != want {
				t.Fatalf("round %d, %d: %s: %v, not %v", round, k, name, got, want)
			}
			if e := compare(d, m); e != nil {
				t.Fatalf("round %d, %d: %s: %v", round, k, name, e)
			}
		}
		for k := range others {
			if e := compare(others[k], models[k]); e != nil {
				t.Fatalf("round %d: the other disk of fork %d: %v", round, k, e)
			}
		}
	}
}

// The same calls come to the same answers, on a second disk too.
func TestSameCallsSameAnswers(t *testing.T) {
	run := func() string {
		d := fresh(t, 3)
		r := rand.New(rand.NewSource(7))
		out := ""
		for k := range 500 {
			switch r.Intn(6) {
			case 0:
				out += d.Flush().Error()
			case 1:
				d.Restart(r.Intn(2) == 0, r.Intn(2) == 0)
			case 2:
				out += d.Fuse(r.Intn(9)).Error()
			default:
				out += d.Write(r.Intn(4), full(byte(k))).Error()
			}
			b, e := d.Read(r.Intn(3))
			out += fmt.Sprint(len(b), e, d.Waiting(), d.Down())
			if len(b) > 0 {
				out += fmt.Sprint(b[0])
			}
		}
		return out
	}
	if run() != run() {
		t.Error("two runs differ")
	}
}
