package disk

import (
	"bytes"
	"math"
	"math/rand/v2"
	"slices"
	"strconv"
	"strings"
	"testing"

	"ashlar/api"
)

// odd holds numbers that are no block of any disk, also cut to fewer bits or with a small number added.
var odd = []int{
	math.MinInt, math.MinInt + 1, -1 << 32, -1 << 31, -2001, -2000, -257, -256, -2, -1,
	2000, 2001, 1 << 16, 1<<31 - 1, 1 << 31, 1 << 32, 1<<32 + 1, math.MaxInt - 1, math.MaxInt,
}

// lengths holds numbers of bytes that are not a block's.
var lengths = []int{0, 1, 128, 255, 257, 511, 512, 256 + 1<<16}

// full returns a block whose bytes differ from their neighbours and, for another seed, from those at the same place.
func full(seed int) []byte {
	b := make([]byte, 256)
	for i := range b {
		b[i] = byte(seed + i*37)
	}
	return b
}

func zeros() []byte { return make([]byte, 256) }

// holds asks for the bytes of a block of a disk that has power.
func holds(t *testing.T, d *Disk, n int, want []byte) {
	t.Helper()
	if b, e := d.Read(n); e != api.OK || !bytes.Equal(b, want) {
		t.Errorf("Read(%d): %x, %v, not %x", n, b, e, want)
	}
}

// does asks for an error.
func does(t *testing.T, what string, e, want api.Errno) {
	t.Helper()
	if e != want {
		t.Errorf("%s: %v, not %v", what, e, want)
	}
}

// P3.1: the number of blocks, kept between 0 and 2000, all of them zeros, and none beyond.
func TestNew(t *testing.T) {
	for _, c := range []struct{ asked, blocks int }{
		{0, 0}, {1, 1}, {2, 2}, {64, 64}, {768, 768}, {1999, 1999}, {2000, 2000}, {2001, 2000}, {3000, 2000},
		{math.MaxInt32, 2000}, {1<<32 + 5, 2000}, {math.MaxInt, 2000},
		{-1, 0}, {-2, 0}, {-2000, 0}, {-1<<32 + 5, 0}, {math.MinInt, 0}, {math.MinInt + 1, 0},
	} {
		d := New(c.asked)
		if d.Blocks() != c.blocks || d.Unflushed() != 0 || d.Down() {
			t.Fatalf("New(%d): %d blocks, %d unflushed, down %v", c.asked, d.Blocks(), d.Unflushed(), d.Down())
		}
		for n := range c.blocks {
			holds(t, d, n, zeros())
		}
		for _, n := range append([]int{c.blocks, c.blocks + 1}, odd...) {
			if b, e := d.Read(n); len(b) != 0 || e != api.ErrArg {
				t.Errorf("New(%d), Read(%d): %x, %v", c.asked, n, b, e)
			}
		}
	}
}

// P3.1: what is written is what is read, from its own block alone, flushed or not.
func TestWriteRead(t *testing.T) {
	d := New(2000)
	for n := range 2000 {
		does(t, "Write", d.Write(n, full(n)), api.OK)
	}
	if d.Unflushed() != 2000 {
		t.Error(d.Unflushed())
	}
	for range 2 {
		for n := range 2000 {
			holds(t, d, n, full(n))
		}
		does(t, "Flush", d.Flush(), api.OK)
	}
}

// P3.1: each Write counts until the next Flush, those of one block and of equal bytes too; with none there is nothing to flush.
func TestUnflushed(t *testing.T) {
	d := New(3)
	for i := range 5 {
		d.Write(i%2, full(i/4))
		if d.Unflushed() != i+1 {
			t.Errorf("after %d Writes: %d", i+1, d.Unflushed())
		}
	}
	for range 2 {
		does(t, "Flush", d.Flush(), api.OK)
		if d.Unflushed() != 0 {
			t.Error(d.Unflushed())
		}
	}
	d.Write(2, full(9))
	if d.Unflushed() != 1 {
		t.Error(d.Unflushed())
	}
}

// P3.1: blocks that are not there, and bytes that are not a block's, with the power on and off; nothing changes.
func TestWrong(t *testing.T) {
	for _, off := range []bool{false, true} {
		d := New(3)
		d.Write(1, full(1))
		if off {
			d.SetFuse(0)
			does(t, "Flush", d.Flush(), api.ErrIO)
		}
		for _, n := range append([]int{3, 4, 5, 255, 256, 259}, odd...) {
			for _, b := range [][]byte{full(7), nil, full(7)[:255]} {
				does(t, "Write of block "+strconv.Itoa(n), d.Write(n, b), api.ErrArg)
				does(t, "Damage of block "+strconv.Itoa(n), d.Damage(n, b), api.ErrArg)
			}
			if b, e := d.Read(n); len(b) != 0 || e != api.ErrArg {
				t.Errorf("Read(%d): %x, %v", n, b, e)
			}
		}
		for _, length := range lengths {
			b := bytes.Repeat([]byte{7}, length)
			for n := range 3 {
				does(t, "Write of "+strconv.Itoa(length), d.Write(n, b), api.ErrArg)
				does(t, "Damage of "+strconv.Itoa(length), d.Damage(n, b), api.ErrArg)
			}
		}
		for _, n := range append([]int{4, 5}, odd...) {
			does(t, "Cut", d.Cut(n), api.ErrArg)
		}
		if d.Blocks() != 3 || d.Unflushed() != 1 || d.Down() != off {
			t.Error(d.Blocks(), d.Unflushed(), d.Down())
		}
		d.Crash([]bool{true})
		holds(t, d, 0, zeros())
		holds(t, d, 1, full(1))
		holds(t, d, 2, zeros())
	}
}

// P3.1: bytes that a slice has only in its spare capacity do not make a block of it.
func TestSpareIsNoBlock(t *testing.T) {
	d := New(1)
	does(t, "Write", d.Write(0, full(1)[:0]), api.ErrArg)
	does(t, "Write", d.Write(0, full(1)[:255]), api.ErrArg)
	does(t, "Damage", d.Damage(0, full(1)[:255]), api.ErrArg)
	does(t, "Write", d.Write(0, slices.Concat(full(1), full(2))[:256]), api.OK)
	holds(t, d, 0, full(1))
}

// P3.1: a fuse of n lets n changes pass, Writes and Flushes alike, and fails the next one, which does nothing.
func TestFuse(t *testing.T) {
	for n := range 12 {
		for flushAt := range 14 {
			d := New(20)
			d.SetFuse(n)
			count := 0
			for i := range n {
				if i%14 == flushAt {
					does(t, "Flush", d.Flush(), api.OK)
					count = 0
				} else {
					does(t, "Write", d.Write(i, full(i)), api.OK)
					count++
				}
				// Reads, and calls that would not be performed, do not burn the fuse.
				d.Read(i)
				d.Write(20, full(0))
				d.Write(i, nil)
				if d.Down() || d.Unflushed() != count {
					t.Fatalf("fuse %d, after %d: down %v, %d unflushed", n, i+1, d.Down(), d.Unflushed())
				}
			}
			if n == flushAt {
				does(t, "Flush", d.Flush(), api.ErrIO)
			} else {
				does(t, "Write", d.Write(n, full(99)), api.ErrIO)
			}
			if !d.Down() || d.Unflushed() != count || d.Blocks() != 20 {
				t.Fatalf("fuse %d: down %v, %d unflushed", n, d.Down(), d.Unflushed())
			}
			d.Crash([]bool{true})
			holds(t, d, n, zeros())
		}
	}
}

// P3.1: while the power is off nothing is read, written or flushed, and no fuse gives it back; a crash does.
func TestDown(t *testing.T) {
	d := New(2)
	d.Write(0, full(1))
	d.Flush()
	d.Write(0, full(2))
	d.SetFuse(0)
	if d.Down() {
		t.Error("down ahead of the change")
	}
	holds(t, d, 0, full(2))
	does(t, "Write", d.Write(1, full(3)), api.ErrIO)
	for _, n := range []int{-1, 0, 1, 100, math.MinInt, math.MaxInt} {
		d.SetFuse(n)
		for k := range 2 {
			if b, e := d.Read(k); len(b) != 0 || e != api.ErrIO {
				t.Errorf("Read: %x, %v", b, e)
			}
			does(t, "Write", d.Write(k, full(4)), api.ErrIO)
		}
		does(t, "Flush", d.Flush(), api.ErrIO)
		if !d.Down() || d.Unflushed() != 1 || d.Blocks() != 2 {
			t.Error(d.Down(), d.Unflushed(), d.Blocks())
		}
	}
	d.Crash(nil)
	if d.Down() || d.Unflushed() != 0 {
		t.Error(d.Down(), d.Unflushed())
	}
	holds(t, d, 0, full(1))
	holds(t, d, 1, zeros())
	does(t, "Write", d.Write(1, full(5)), api.OK)
	does(t, "Flush", d.Flush(), api.OK)
	holds(t, d, 1, full(5))
}

// P3.1: a fuse that is set again counts anew; a negative one, whatever it is, and a crash take it away; a great one lasts.
func TestFuseAgain(t *testing.T) {
	d := New(1)
	d.SetFuse(2)
	d.Write(0, full(1))
	d.SetFuse(2)
	does(t, "first", d.Write(0, full(1)), api.OK)
	does(t, "second", d.Flush(), api.OK)
	does(t, "third", d.Flush(), api.ErrIO)
	d.Crash(nil)
	for _, n := range []int{-1, -2, -1 << 32, math.MinInt, 1 << 32, 1<<32 + 3, math.MaxInt} {
		for _, before := range []int{0, 1, 3} {
			d.SetFuse(before)
			d.SetFuse(n)
			for range 10 {
				does(t, "Write", d.Write(0, full(1)), api.OK)
				does(t, "Flush", d.Flush(), api.OK)
			}
			d.SetFuse(before)
			d.Crash(nil)
			for range 10 {
				does(t, "Write", d.Write(0, full(1)), api.OK)
				does(t, "Flush", d.Flush(), api.OK)
			}
		}
	}
}

// P3.1: a fuse counts a Flush with nothing to flush, and Damage, Cut and asking do not burn it.
func TestFuseCounts(t *testing.T) {
	d := New(5)
	d.SetFuse(1)
	does(t, "Damage", d.Damage(0, full(1)), api.OK)
	does(t, "Cut", d.Cut(4), api.OK)
	d.Read(0)
	d.Down()
	d.Unflushed()
	does(t, "Flush", d.Flush(), api.OK)
	does(t, "Damage", d.Damage(0, full(2)), api.OK)
	does(t, "Cut", d.Cut(3), api.OK)
	if d.Down() {
		t.Error("down ahead of the change")
	}
	does(t, "Flush", d.Flush(), api.ErrIO)
}

// P3.2: the chapter's example.
func TestExample(t *testing.T) {
	d := New(1)
	d.Write(0, full('x'))
	d.Write(0, full('y'))
	d.Crash([]bool{true, false})
	holds(t, d, 0, full('x'))
	if d.Unflushed() != 0 {
		t.Error(d.Unflushed())
	}
}

// P3.2: every order of up to five Writes of two blocks, under every keep of up to six elements, with the power on and off.
func TestCrash(t *testing.T) {
	for writes := range 6 {
		for places := range 1 << writes {
			for length := range 7 {
				for kept := range 1 << length {
					crash(t, writes, places, length, kept, (places+kept)%2 == 0)
				}
			}
		}
	}
}

// crash plays one case of TestCrash: the bits of places are the Writes' blocks, and those of kept the elements of keep.
func crash(t *testing.T, writes, places, length, kept int, off bool) {
	t.Helper()
	d := New(3)
	want := [][]byte{full(100), full(101), zeros()}
	d.Write(0, want[0])
	d.Write(1, want[1])
	d.Flush()
	keep := make([]bool, length)
	for i := range keep {
		keep[i] = kept>>i&1 == 1
	}
	for i := range writes {
		place := places >> i & 1
		d.Write(place, full(i))
		if length > 0 && keep[i%length] {
			want[place] = full(i)
		}
	}
	if off {
		d.SetFuse(0)
		d.Write(2, full(50))
	}
	before := slices.Clone(keep)
	d.Crash(keep)
	if d.Down() || d.Unflushed() != 0 || !slices.Equal(keep, before) {
		t.Fatal(d.Down(), d.Unflushed(), keep, before)
	}
	// What the crash left is flushed: another one changes nothing.
	for range 2 {
		for n := range want {
			if b, e := d.Read(n); e != api.OK || !bytes.Equal(b, want[n]) {
				t.Fatalf("%d Writes of %b, keep %v, block %d: %x, %v", writes, places, keep, n, b, e)
			}
		}
		d.Crash(nil)
	}
}

// P3.2: a Write that is not kept leaves what was flushed last, not what an earlier Write that was not flushed made.
func TestCrashLeavesFlushed(t *testing.T) {
	for _, nothing := range [][]bool{nil, {}, {false}, {false, false, false}} {
		d := New(2)
		d.Write(0, full(1))
		d.Flush()
		d.Write(0, full(2))
		d.Flush()
		d.Write(0, full(3))
		d.Write(1, full(4))
		d.Write(0, full(5))
		holds(t, d, 0, full(5))
		d.Crash(nothing)
		holds(t, d, 0, full(2))
		holds(t, d, 1, zeros())
	}
}

// P3.2: Damage is flushed: no Write from before it comes back, kept or not; one from after it is as any other.
func TestDamage(t *testing.T) {
	for _, off := range []bool{false, true} {
		for kept := range 1 << 4 {
			keep := []bool{kept&1 == 1, kept&2 == 2, kept&4 == 4, kept&8 == 8}
			d := New(4)
			d.Write(1, full(1))
			d.Write(2, full(2))
			d.Write(1, full(3))
			d.Write(3, full(4))
			if off {
				d.SetFuse(0)
				d.Flush()
			}
			does(t, "Damage", d.Damage(1, full(5)), api.OK)
			if d.Unflushed() != 2 || d.Down() != off {
				t.Fatalf("%d unflushed, down %v", d.Unflushed(), d.Down())
			}
			if !off {
				holds(t, d, 1, full(5))
				holds(t, d, 2, full(2))
				holds(t, d, 3, full(4))
			}
			d.Crash(keep)
			holds(t, d, 0, zeros())
			holds(t, d, 1, full(5))
			holds(t, d, 2, pick(keep[0], full(2)))
			holds(t, d, 3, pick(keep[1], full(4)))
		}
	}
}

// pick returns b if a crash kept it, and else a block that was never flushed.
func pick(kept bool, b []byte) []byte {
	if kept {
		return b
	}
	return zeros()
}

// P3.2: a Write after a Damage that is not kept leaves the damaged block.
func TestWriteAfterDamage(t *testing.T) {
	for _, kept := range []bool{false, true} {
		d := New(1)
		d.Write(0, full(1))
		d.Damage(0, full(2))
		d.Write(0, full(3))
		holds(t, d, 0, full(3))
		if d.Unflushed() != 1 {
			t.Error(d.Unflushed())
		}
		d.Crash([]bool{kept, !kept})
		if kept {
			holds(t, d, 0, full(3))
		} else {
			holds(t, d, 0, full(2))
		}
	}
}

// P3.2: Cut to every number of blocks: the first ones stay, the Writes of the others are forgotten, with the power on and off.
func TestCut(t *testing.T) {
	for _, off := range []bool{false, true} {
		for blocks := range 6 {
			for kept := range 4 {
				cut(t, off, blocks, []bool{kept&1 == 1, kept&2 == 2})
			}
		}
	}
}

// cut plays one case of TestCut: five blocks are written from the last one on, flushed and unflushed.
func cut(t *testing.T, off bool, blocks int, keep []bool) {
	t.Helper()
	d := New(5)
	for n := range 5 {
		d.Write(n, full(n))
	}
	d.Flush()
	for n := 4; n >= 0; n-- {
		d.Write(n, full(10+n))
	}
	if off {
		d.SetFuse(0)
		d.Flush()
	}
	does(t, "Cut", d.Cut(blocks), api.OK)
	if d.Blocks() != blocks || d.Unflushed() != blocks || d.Down() != off {
		t.Fatalf("Cut(%d): %d blocks, %d unflushed, down %v", blocks, d.Blocks(), d.Unflushed(), d.Down())
	}
	for n := blocks; n <= 5; n++ {
		if _, e := d.Read(n); e != api.ErrArg {
			t.Errorf("Read(%d): %v", n, e)
		}
		does(t, "Write", d.Write(n, full(1)), api.ErrArg)
		does(t, "Damage", d.Damage(n, full(1)), api.ErrArg)
	}
	does(t, "Cut", d.Cut(blocks+1), api.ErrArg)
	for n := 0; n < blocks && !off; n++ {
		holds(t, d, n, full(10+n))
	}
	d.Crash(keep)
	for n := range blocks {
		if keep[(blocks-1-n)%2] {
			holds(t, d, n, full(10+n))
		} else {
			holds(t, d, n, full(n))
		}
	}
	if d.Down() || d.Unflushed() != 0 || d.Blocks() != blocks {
		t.Error(d.Down(), d.Unflushed(), d.Blocks())
	}
}

// P3.2: a disk that is cut to nothing has no block, goes on, and cannot be made greater.
func TestCutToNone(t *testing.T) {
	d := New(2)
	d.Write(0, full(1))
	does(t, "Cut", d.Cut(0), api.OK)
	does(t, "Cut", d.Cut(0), api.OK)
	does(t, "Cut", d.Cut(1), api.ErrArg)
	does(t, "Write", d.Write(0, full(1)), api.ErrArg)
	does(t, "Flush", d.Flush(), api.OK)
	d.SetFuse(0)
	does(t, "Flush", d.Flush(), api.ErrIO)
	d.Crash([]bool{true})
	if d.Blocks() != 0 || d.Unflushed() != 0 || d.Down() {
		t.Error(d.Blocks(), d.Unflushed(), d.Down())
	}
}

// P3.2: a Crash with the power on loses what is not flushed and takes the fuse away, as with the power off.
func TestCrashPoweredOn(t *testing.T) {
	d := New(1)
	d.SetFuse(1)
	d.Write(0, full(1))
	d.Crash(nil)
	holds(t, d, 0, zeros())
	for range 3 {
		does(t, "Write", d.Write(0, full(2)), api.OK)
		does(t, "Flush", d.Flush(), api.OK)
	}
}

// R1: on a nil disk there are errors and zero values; a Disk that New did not make has no blocks.
func TestNil(t *testing.T) {
	var none *Disk
	if b, e := none.Read(0); len(b) != 0 || e != api.ErrArg {
		t.Errorf("%x, %v", b, e)
	}
	does(t, "Write", none.Write(0, full(1)), api.ErrArg)
	does(t, "Flush", none.Flush(), api.ErrArg)
	does(t, "Damage", none.Damage(0, full(1)), api.ErrArg)
	does(t, "Cut", none.Cut(0), api.ErrArg)
	none.SetFuse(0)
	none.Crash([]bool{true})
	if none.Blocks() != 0 || none.Unflushed() != 0 || none.Down() {
		t.Error(none.Blocks(), none.Unflushed(), none.Down())
	}
	var zero Disk
	if b, e := zero.Read(0); len(b) != 0 || e != api.ErrArg {
		t.Errorf("%x, %v", b, e)
	}
	does(t, "Write", zero.Write(0, full(1)), api.ErrArg)
	does(t, "Flush", zero.Flush(), api.OK)
	does(t, "Cut", zero.Cut(0), api.OK)
	zero.Crash(nil)
	if zero.Blocks() != 0 || zero.Unflushed() != 0 || zero.Down() {
		t.Error(zero.Blocks(), zero.Unflushed(), zero.Down())
	}
}

// R3: Write and Damage leave their bytes as they are and do not keep them, nor does Crash its list.
func TestArgumentsStay(t *testing.T) {
	for _, put := range []func(d *Disk, b []byte) api.Errno{
		func(d *Disk, b []byte) api.Errno { return d.Write(0, b) },
		func(d *Disk, b []byte) api.Errno { return d.Damage(0, b) },
	} {
		for _, crash := range []bool{false, true} {
			d := New(1)
			whole := slices.Concat(full(1), full(2))
			does(t, "put", put(d, whole[:256]), api.OK)
			if !bytes.Equal(whole, slices.Concat(full(1), full(2))) {
				t.Errorf("changed: %x", whole)
			}
			clear(whole)
			if crash {
				d.Crash([]bool{true})
			}
			holds(t, d, 0, full(1))
			if !bytes.Equal(whole, make([]byte, 512)) {
				t.Errorf("changed later: %x", whole)
			}
		}
	}
	d := New(1)
	d.Write(0, full(1))
	keep := []bool{true, false, true}
	d.Crash(keep[:1])
	clear(keep)
	d.Write(0, full(2))
	d.Crash(nil)
	holds(t, d, 0, full(1))
	if slices.Contains(keep, true) {
		t.Error(keep)
	}
}

// R3: what Read answers is new each time, with its spare capacity, and stays as it is when the disk changes.
func TestResultsAreNew(t *testing.T) {
	for _, flushed := range []bool{false, true} {
		d := New(3)
		for n := range 3 {
			d.Write(n, full(n))
		}
		if flushed {
			d.Flush()
		}
		first, _ := d.Read(1)
		second, _ := d.Read(1)
		clear(first[:cap(first)])
		if !bytes.Equal(second, full(1)) {
			t.Errorf("two results share memory: %x", second)
		}
		d.Crash([]bool{true})
		for n := range 3 {
			holds(t, d, n, full(n))
		}
		kept, _ := d.Read(1)
		d.Write(1, full(9))
		d.Flush()
		d.Damage(1, full(8))
		d.Cut(0)
		if !bytes.Equal(kept, full(1)) {
			t.Errorf("a result changed with the disk: %x", kept)
		}
	}
}

// R2: disks have nothing in common.
func TestDisksApart(t *testing.T) {
	a, b := New(2), New(2)
	a.Write(0, full(1))
	a.SetFuse(0)
	a.Flush()
	a.Cut(1)
	holds(t, b, 0, zeros())
	if b.Down() || b.Unflushed() != 0 || b.Blocks() != 2 {
		t.Error(b.Down(), b.Unflushed(), b.Blocks())
	}
	does(t, "Flush", b.Flush(), api.OK)
}

// model says the chapter's words block by block: what was flushed last, and the unflushed Writes in their order.
type model struct {
	flushed [][]byte
	ats     []int
	datas   [][]byte
	fuse    int // negative: none
	down    bool
}

func newModel(blocks int) *model {
	m := &model{fuse: -1}
	for range blocks {
		m.flushed = append(m.flushed, zeros())
	}
	return m
}

// content looks for the last Write of the block among those that are named.
func (m *model) content(n int, named func(i int) bool) []byte {
	b := m.flushed[n]
	for i := range m.ats {
		if m.ats[i] == n && named(i) {
			b = m.datas[i]
		}
	}
	return b
}

// end makes the named Writes flushed and forgets the others.
func (m *model) end(named func(i int) bool) {
	after := [][]byte{}
	for n := range m.flushed {
		after = append(after, m.content(n, named))
	}
	m.flushed, m.ats, m.datas = after, nil, nil
}

// fails counts a change, and reports whether the power is off for it.
func (m *model) fails() bool {
	if !m.down && m.fuse == 0 {
		m.down = true
	}
	if !m.down && m.fuse > 0 {
		m.fuse--
	}
	return m.down
}

// without drops the Writes of the blocks that are named.
func (m *model) without(gone func(n int) bool) {
	ats, datas := m.ats, m.datas
	m.ats, m.datas = nil, nil
	for i, n := range ats {
		if !gone(n) {
			m.ats, m.datas = append(m.ats, n), append(m.datas, datas[i])
		}
	}
}

func (m *model) wrong(n int, b []byte) bool {
	return n < 0 || n >= len(m.flushed) || len(b) != 256
}

func (m *model) write(n int, b []byte) api.Errno {
	if m.wrong(n, b) {
		return api.ErrArg
	}
	if m.fails() {
		return api.ErrIO
	}
	m.ats, m.datas = append(m.ats, n), append(m.datas, b)
	return api.OK
}

func (m *model) flush() api.Errno {
	if m.fails() {
		return api.ErrIO
	}
	m.end(func(int) bool { return true })
	return api.OK
}

func (m *model) crash(keep []bool) {
	m.end(func(i int) bool { return len(keep) != 0 && keep[i%len(keep)] })
	m.down, m.fuse = false, -1
}

func (m *model) damage(n int, b []byte) api.Errno {
	if m.wrong(n, b) {
		return api.ErrArg
	}
	m.flushed[n] = b
	m.without(func(at int) bool { return at == n })
	return api.OK
}

func (m *model) cut(blocks int) api.Errno {
	if blocks < 0 || blocks > len(m.flushed) {
		return api.ErrArg
	}
	m.flushed = m.flushed[:blocks]
	m.without(func(at int) bool { return at >= blocks })
	return api.OK
}

// pair is a disk and its model, played alike.
type pair struct {
	d    *Disk
	m    *model
	told strings.Builder
}

func newPair(blocks int) *pair {
	return &pair{d: New(blocks), m: newModel(blocks)}
}

// play does op number op on both, with the numbers n and seed, and reports whether they answer the same.
func (p *pair) play(op, n, seed int) bool {
	p.told.WriteString(" " + strconv.Itoa(op) + ":" + strconv.Itoa(n) + ":" + strconv.Itoa(seed))
	b := full(seed)
	switch op {
	case 0:
		return p.d.Write(n, b) == p.m.write(n, b)
	case 1:
		return p.d.Flush() == p.m.flush()
	case 2:
		p.d.SetFuse(n)
		p.m.fuse = max(n, -1)
		return true
	case 3:
		keep := make([]bool, n)
		for i := range keep {
			keep[i] = seed>>i&1 == 1
		}
		p.d.Crash(keep)
		p.m.crash(keep)
		return true
	case 4:
		return p.d.Damage(n, b) == p.m.damage(n, b)
	case 5:
		return p.d.Cut(n) == p.m.cut(n)
	default:
		return p.d.Write(n, b[1:]) == p.m.write(n, b[1:])
	}
}

// same holds everything that a disk tells against the model.
func (p *pair) same() bool {
	if p.d.Blocks() != len(p.m.flushed) || p.d.Unflushed() != len(p.m.ats) || p.d.Down() != p.m.down {
		return false
	}
	for n := range p.m.flushed {
		b, e := p.d.Read(n)
		if p.m.down && (e != api.ErrIO || len(b) != 0) {
			return false
		}
		if !p.m.down && (e != api.OK || !bytes.Equal(b, p.m.content(n, func(int) bool { return true }))) {
			return false
		}
	}
	_, e := p.d.Read(len(p.m.flushed))
	return e == api.ErrArg
}

// P3.1, P3.2: all orders of four calls out of all kinds, on a disk of two blocks.
func TestAllShortHistories(t *testing.T) {
	steps := [][2]int{
		{0, 0}, {0, 1}, {0, 2}, {1, 0}, {2, -1}, {2, 0}, {2, 1}, {3, 0}, {3, 1}, {3, 2}, {4, 0}, {4, 1}, {5, 0}, {5, 1}, {5, 2}, {6, 0},
	}
	for history := range len(steps) * len(steps) * len(steps) * len(steps) {
		p := newPair(2)
		for i := range 4 {
			step := steps[history%len(steps)]
			history /= len(steps)
			// In the crashes the bits of 5+i are the elements of keep.
			if !p.play(step[0], step[1], 5+i) || !p.same() {
				t.Fatal(p.told.String())
			}
		}
	}
}

// P3.1, P3.2: long histories on disks of a few blocks, Writes and Flushes more often than the other calls.
func TestLongHistories(t *testing.T) {
	for seed := range uint64(400) {
		r := rand.New(rand.NewPCG(seed, 3))
		p := newPair(1 + r.IntN(12))
		for range 120 {
			op := max(r.IntN(26)-19, 0)
			n := r.IntN(14) - 1
			if op == 3 {
				n = r.IntN(9)
			}
			if op == 5 && r.IntN(4) > 0 {
				n = 13
			}
			if !p.play(op, n, r.IntN(1<<10)) || !p.same() {
				t.Fatal(seed, p.told.String())
			}
		}
	}
}

// R2: the same calls on two disks answer the same.
func TestSameAgain(t *testing.T) {
	tell := func() string {
		var told strings.Builder
		d := New(6)
		d.SetFuse(17)
		for i := range 60 {
			e := d.Write(i*5%7, full(i))
			if i%9 == 8 {
				e = d.Flush()
			}
			if i == 40 {
				d.Crash([]bool{true, false, false})
			}
			b, f := d.Read(i % 6)
			told.WriteString(strconv.Itoa(int(e)) + " " + strconv.Itoa(int(f)) + " " + strconv.Itoa(d.Unflushed()) + string(b) + "\n")
		}
		return told.String()
	}
	if tell() != tell() {
		t.Error("the same calls answered otherwise")
	}
}
