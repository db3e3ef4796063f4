package store

import (
	"bytes"
	"maps"
	"math"
	"slices"
	"strconv"
	"testing"

	"ashlar/api"
	"ashlar/disk"
	"ashlar/log"
	"ashlar/txn"
)

// The journal's blocks on each disk, the most blocks of a transaction, and how many can be part of one.
const (
	journalAt  = 3
	journalEnd = 42
	most       = 37
	numbered   = 768
)

// patterns holds which unflushed Writes a crash keeps: none, all, every second one, the first ones, the last ones, and others.
var patterns = [][]bool{
	nil, {true}, {true, false}, {false, true}, {false, false, true}, {true, false, false, true, false, true, true},
	edge(1, true), edge(3, true), edge(20, true), edge(1, false), edge(2, false), edge(20, false),
}

// edge keeps the first n of as many Writes as are unflushed at most, or with keep false all but these.
func edge(n int, keep bool) []bool {
	all := make([]bool, 2*most)
	for i := range all {
		all[i] = (i < n) == keep
	}
	return all
}

// filled returns a block that differs from that of each other seed below 65536, and from zeros.
func filled(seed int) []byte {
	b := make([]byte, 256)
	for i := range b {
		b[i] = byte(seed*29 + i*11 + i*seed/7 + 3)
	}
	b[50], b[150], b[255] = byte(seed), byte(seed>>8), 1
	return b
}

// run returns count numbers from least on.
func run(least, count int) []int {
	all := make([]int, count)
	for i := range all {
		all[i] = least + i
	}
	return all
}

// device returns a disk whose blocks all differ, flushed, but for the journal, which is zeros.
func device(blocks int) *disk.Disk {
	d := disk.New(blocks)
	for n := range blocks {
		if !journaled(n) {
			d.Damage(n, filled(n))
		}
	}
	return d
}

func journaled(n int) bool { return n >= journalAt && n <= journalEnd }

// content is the bytes of all blocks, those of the journal left out.
type content [][]byte

// contentOf reads all blocks of a disk but those of the journal.
func contentOf(t *testing.T, d *disk.Disk) content {
	t.Helper()
	c := make(content, d.Blocks())
	for n := range c {
		if journaled(n) {
			continue
		}
		b, e := d.Read(n)
		if e != api.OK {
			t.Fatalf("block %d: %v", n, e)
		}
		c[n] = b
	}
	return c
}

// with returns a content in which some blocks are others.
func (c content) with(blocks map[int][]byte) content {
	other := slices.Clone(c)
	for n, b := range blocks {
		other[n] = b
	}
	return other
}

// is reports whether two contents are the same.
func (c content) is(other content) bool { return slices.EqualFunc(c, other, bytes.Equal) }

// seeded returns blocks for the numbers, others for another seed.
func seeded(numbers []int, seed int) map[int][]byte {
	blocks := map[int][]byte{}
	for i, n := range numbers {
		blocks[n] = filled(2000 + 100*seed + i)
	}
	return blocks
}

// has holds that a disk has exactly these blocks, the journal left out.
func has(t *testing.T, what string, d *disk.Disk, want content) {
	t.Helper()
	got := contentOf(t, d)
	for n := range want {
		if !bytes.Equal(got[n], want[n]) {
			t.Fatalf("%s: block %d of the disk is %x, not %x", what, n, got[n], want[n])
		}
	}
}

// shows holds that Get tells exactly these blocks, the journal left out.
func shows(t *testing.T, what string, s *Store, want content) {
	t.Helper()
	for n := range want {
		if !journaled(n) {
			gets(t, what, s, n, want[n], api.OK)
		}
	}
}

// gets holds what Get returns.
func gets(t *testing.T, what string, s *Store, n int, want []byte, wantE api.Errno) {
	t.Helper()
	b, e := s.Get(n)
	if !bytes.Equal(b, want) || e != wantE || e != api.OK && b != nil {
		t.Fatalf("%s: Get(%d) is %x, %v, not %x, %v", what, n, b, e, want, wantE)
	}
}

// does asks for an error.
func does(t *testing.T, what string, e, want api.Errno) {
	t.Helper()
	if e != want {
		t.Fatalf("%s: %v, not %v", what, e, want)
	}
}

// told holds what Dirty, Within and Over return.
func told(t *testing.T, what string, s *Store, dirty int, within, over bool) {
	t.Helper()
	if s.Dirty() != dirty || s.Within() != within || s.Over() != over {
		t.Fatalf("%s: Dirty %d, Within %v, Over %v, not %d, %v, %v", what, s.Dirty(), s.Within(), s.Over(), dirty, within, over)
	}
}

// opened opens a store.
func opened(t *testing.T, d *disk.Disk) *Store {
	t.Helper()
	s, e := Open(d)
	if s == nil || e != api.OK {
		t.Fatalf("Open: %v, %v", s, e)
	}
	told(t, "Open", s, 0, false, false)
	return s
}

// refused holds that Open returns this error, and no store.
func refused(t *testing.T, what string, d *disk.Disk, want api.Errno) {
	t.Helper()
	if s, e := Open(d); s != nil || e != want {
		t.Fatalf("%s: Open is %v, %v, not nil, %v", what, s, e, want)
	}
}

// putAll puts the blocks, the least number first.
func putAll(t *testing.T, s *Store, blocks map[int][]byte) {
	t.Helper()
	for _, n := range slices.Sorted(maps.Keys(blocks)) {
		does(t, "Put", s.Put(n, blocks[n]), api.OK)
	}
}

// call makes a whole call that puts the blocks.
func call(t *testing.T, s *Store, blocks map[int][]byte, keep bool) {
	t.Helper()
	does(t, "Begin", s.Begin(), api.OK)
	putAll(t, s, blocks)
	does(t, "End", s.End(keep), api.OK)
}

// fail lets the power fail now.
func fail(d *disk.Disk) {
	d.SetFuse(0)
	d.Flush()
}

// ends holds the edges of numbers for a disk of so many blocks: those that it has no block for, and those that it has.
func ends(blocks int) (none, some []int) {
	none = []int{math.MinInt, math.MinInt32, -256, -1, blocks, blocks + 1, blocks + 1<<16, 1 << 32, 1<<32 + 50, math.MaxInt}
	return none, []int{0, 1, 50, blocks - 1}
}

// P11.1: Open of no disk, of disks of all sizes, with and without power.
func TestOpen(t *testing.T) {
	refused(t, "nil", nil, api.ErrArg)
	refused(t, "zero", &disk.Disk{}, api.ErrArg)
	for _, blocks := range []int{0, 1, 3, 42, 43, 62, 63} {
		d := device(blocks)
		refused(t, strconv.Itoa(blocks)+" blocks", d, api.ErrArg)
		fail(d)
		refused(t, strconv.Itoa(blocks)+" blocks without power", d, api.ErrArg)
	}
	for _, blocks := range []int{64, 65, 100, 128, 767, 768, 769, 2000} {
		d := device(blocks)
		was := contentOf(t, d)
		shows(t, "Open", opened(t, d), was)
		has(t, "Open", d, was)
		fail(d)
		refused(t, "without power", d, api.ErrIO)
		d.Crash(nil)
		shows(t, "Open again", opened(t, d), was)
	}
}

// P11.1: what is unflushed ahead of Open is there, and Open has it flushed, as Recover of the journal does.
func TestOpenUnflushed(t *testing.T) {
	d := device(64)
	was := contentOf(t, d).with(seeded([]int{50, 0}, 1))
	d.Write(50, was[50])
	d.Write(0, was[0])
	shows(t, "Open", opened(t, d), was)
	d.Crash(nil)
	has(t, "Open, and a crash", d, was)
}

// P11.1: a transaction in the journal is written at its place by Open; one for which the disk has not all blocks is not.
func TestOpenCompletes(t *testing.T) {
	for _, blocks := range []int{64, 65, 128, 768, 2000} {
		for _, numbers := range [][]int{nil, {0}, {60, 0, 50}, {63}, run(43, 21)} {
			d := device(blocks)
			was, x := contentOf(t, d), seeded(numbers, 1)
			does(t, "Write", log.Write(d, logged(9, x)), api.OK)
			shows(t, "Open", opened(t, d), was.with(x))
			has(t, "Open", d, was.with(x))
			d.Crash(nil)
			has(t, "Open, and a crash", d, was.with(x))
		}
	}
	d := device(128)
	does(t, "Write", log.Write(d, logged(9, seeded([]int{60, 100, 50}, 1))), api.OK)
	does(t, "Cut", d.Cut(100), api.OK)
	was := contentOf(t, d)
	shows(t, "Open of a disk that was cut", opened(t, d), was)
	has(t, "Open of a disk that was cut", d, was)
}

// logged returns the transaction of blocks.
func logged(seq uint32, blocks map[int][]byte) txn.Txn {
	x := txn.Txn{Seq: seq, Numbers: slices.Sorted(maps.Keys(blocks))}
	for _, n := range x.Numbers {
		x.Data = append(x.Data, blocks[n])
	}
	return x
}

// P11.1: the power failing at each change of Open: its error and no store; behind a crash it opens.
func TestOpenFails(t *testing.T) {
	for _, numbers := range [][]int{nil, {50}, {60, 0, 50}, run(43, 21)} {
		for _, keep := range patterns {
			x := seeded(numbers, 1)
			d := device(64)
			was := contentOf(t, d)
			does(t, "Write", log.Write(d, logged(9, x)), api.OK)
			for fuse := range len(numbers) + 1 {
				d.SetFuse(fuse)
				refused(t, "fuse "+strconv.Itoa(fuse), d, api.ErrIO)
				refused(t, "without power", d, api.ErrIO)
				d.Crash(keep)
			}
			d.SetFuse(len(numbers) + 1)
			shows(t, "Open", opened(t, d), was.with(x))
		}
	}
}

// R1: a nil store, whatever the arguments; and the zero one, which has no blocks, does not panic.
func TestNil(t *testing.T) {
	var s *Store
	none, some := ends(64)
	for range 2 {
		does(t, "Begin", s.Begin(), api.ErrArg)
		for _, n := range append(none, some...) {
			gets(t, "nil", s, n, nil, api.ErrArg)
			for _, length := range []int{0, 255, 256, 257} {
				does(t, "Put", s.Put(n, make([]byte, length)), api.ErrArg)
			}
			does(t, "Put", s.Put(n, nil), api.ErrArg)
		}
		does(t, "End", s.End(true), api.ErrArg)
		does(t, "End", s.End(false), api.ErrArg)
		does(t, "Sync", s.Sync(), api.ErrArg)
		told(t, "nil", s, 0, false, false)
	}
	z := &Store{}
	for _, keep := range []bool{true, false} {
		does(t, "Begin", z.Begin(), api.OK)
		gets(t, "zero", z, 0, nil, api.ErrArg)
		does(t, "Put", z.Put(0, filled(1)), api.ErrArg)
		does(t, "End", z.End(keep), api.OK)
		does(t, "Sync", z.Sync(), api.OK)
	}
}

// P11.1: the calls that have their place outside a call, or within one: ErrBusy, whatever the arguments, and nothing changed.
func TestBusy(t *testing.T) {
	d := device(64)
	was, x, y := contentOf(t, d), seeded([]int{50, 0}, 1), seeded([]int{50, 63}, 2)
	s := opened(t, d)
	none, some := ends(64)
	outside := func(dirty int, want content) {
		for range 2 {
			does(t, "End", s.End(true), api.ErrBusy)
			does(t, "End", s.End(false), api.ErrBusy)
			for _, n := range append(none, some...) {
				for _, length := range []int{0, 255, 256, 257} {
					does(t, "Put", s.Put(n, make([]byte, length)), api.ErrBusy)
				}
				does(t, "Put", s.Put(n, nil), api.ErrBusy)
			}
			told(t, "outside", s, dirty, false, false)
		}
		shows(t, "outside", s, want)
	}
	within := func(dirty int, want content) {
		for range 2 {
			does(t, "Begin", s.Begin(), api.ErrBusy)
			does(t, "Sync", s.Sync(), api.ErrBusy)
			told(t, "within", s, dirty, true, false)
		}
		shows(t, "within", s, want)
	}
	outside(0, was)
	does(t, "Begin", s.Begin(), api.OK)
	within(0, was)
	putAll(t, s, x)
	within(0, was.with(x))
	does(t, "End", s.End(true), api.OK)
	outside(2, was.with(x))
	does(t, "Begin", s.Begin(), api.OK)
	putAll(t, s, y)
	within(2, was.with(x).with(y))
	does(t, "End", s.End(false), api.OK)
	outside(2, was.with(x))
	has(t, "all of this", d, was)
	does(t, "Sync", s.Sync(), api.OK)
	outside(0, was.with(x))
	has(t, "Sync", d, was.with(x))
}

// P11.1: Get at the edges of numbers, on disks of all sizes, outside a call and within one.
func TestGetEdges(t *testing.T) {
	for _, blocks := range []int{64, 65, 128, 767, 768, 769, 2000} {
		d := device(blocks)
		s := opened(t, d)
		none, some := ends(blocks)
		for range 2 {
			for _, n := range none {
				gets(t, "none", s, n, nil, api.ErrArg)
			}
			for _, n := range some {
				gets(t, "some", s, n, filled(n), api.OK)
			}
			told(t, "Get", s, 0, s.Within(), false)
			s.Begin()
		}
	}
}

// P11.1: Get of a block of the journal tells what is there.
func TestGetJournal(t *testing.T) {
	d := device(64)
	s := opened(t, d)
	gets(t, "no journal", s, journalAt, make([]byte, 256), api.OK)
	call(t, s, seeded([]int{50}, 1), true)
	does(t, "Sync", s.Sync(), api.OK)
	for n := journalAt; n <= journalEnd; n++ {
		b, _ := d.Read(n)
		gets(t, "a journal", s, n, b, api.OK)
	}
}

// P11.1: Get of what the call changed, what earlier calls changed, and what a call had changed that is not kept.
func TestGetChanged(t *testing.T) {
	d := device(64)
	want := contentOf(t, d)
	s := opened(t, d)
	for i, c := range []struct {
		numbers    []int
		keep, sync bool
	}{
		{[]int{50, 51}, true, false}, {[]int{51, 52}, false, false}, {[]int{51, 0}, true, false}, {[]int{50, 51, 63}, false, true},
		{[]int{50}, true, false}, {[]int{50}, true, true}, {[]int{50, 0, 1, 2, 63}, false, false}, {nil, true, false}, {[]int{2}, true, false},
	} {
		what := "call " + strconv.Itoa(i)
		x := seeded(c.numbers, i)
		does(t, what, s.Begin(), api.OK)
		shows(t, what, s, want)
		putAll(t, s, x)
		shows(t, what, s, want.with(x))
		does(t, what, s.End(c.keep), api.OK)
		if c.keep {
			want = want.with(x)
		}
		shows(t, what, s, want)
		if c.sync {
			does(t, what, s.Sync(), api.OK)
			shows(t, what, s, want)
		}
	}
}

// P11.1: Put at the edges of numbers, with blocks of all lengths: ErrArg, and nothing changed.
func TestPutEdges(t *testing.T) {
	for _, blocks := range []int{64, 65, 128, 767, 768} {
		d := device(blocks)
		want := contentOf(t, d)
		s := opened(t, d)
		none, some := ends(blocks)
		does(t, "Begin", s.Begin(), api.OK)
		for _, length := range []int{0, 1, 255, 256, 257, 512} {
			b := bytes.Repeat([]byte{9}, length)
			for _, n := range none {
				does(t, "no block", s.Put(n, b), api.ErrArg)
			}
			for _, n := range some {
				if length != 256 {
					does(t, "a wrong length", s.Put(n, b), api.ErrArg)
				}
			}
		}
		does(t, "nil", s.Put(50, nil), api.ErrArg)
		told(t, "Put", s, 0, true, false)
		shows(t, "Put", s, want)
		x := seeded(some, 1)
		putAll(t, s, x)
		does(t, "a wrong length", s.Put(50, make([]byte, 255)), api.ErrArg)
		shows(t, "Put", s, want.with(x))
		does(t, "End", s.End(true), api.OK)
		told(t, "End", s, len(some), false, false)
		does(t, "Sync", s.Sync(), api.OK)
		has(t, "Sync", d, want.with(x))
	}
}

// P11.1: on a disk that has more blocks than a file system can have, those beyond are read, but no transaction can have them.
func TestPutBeyond(t *testing.T) {
	for _, blocks := range []int{769, 1000, 2000} {
		d := device(blocks)
		want := contentOf(t, d)
		s := opened(t, d)
		does(t, "Begin", s.Begin(), api.OK)
		for _, n := range []int{numbered, numbered + 1, blocks - 1} {
			if n < blocks {
				gets(t, "beyond", s, n, filled(n), api.OK)
			}
			does(t, "beyond", s.Put(n, filled(1)), api.ErrArg)
		}
		x := seeded([]int{numbered - 1, 0}, 1)
		putAll(t, s, x)
		does(t, "End", s.End(true), api.OK)
		does(t, "Sync", s.Sync(), api.OK)
		has(t, "Sync", d, want.with(x))
		shows(t, "Sync", s, want.with(x))
	}
}

// P11.1: the errors of Put in their order: a call that has no room for a block has none for a wrong one either.
func TestPutOrder(t *testing.T) {
	s := opened(t, device(128))
	does(t, "outside, and wrong", s.Put(-1, nil), api.ErrBusy)
	does(t, "Begin", s.Begin(), api.OK)
	putAll(t, s, seeded(run(64, most), 1))
	does(t, "full", s.Put(50, filled(1)), api.ErrNoSpace)
	for _, n := range []int{-1, 128, math.MinInt, math.MaxInt} {
		does(t, "full, and no block", s.Put(n, filled(1)), api.ErrArg)
	}
	for _, length := range []int{0, 255, 257} {
		does(t, "full, and a wrong length", s.Put(50, make([]byte, length)), api.ErrArg)
	}
	told(t, "Put", s, 0, true, false)
}

// P11.1: a block that is put again and again counts once, and is as the last Put made it.
func TestPutAgain(t *testing.T) {
	d := device(64)
	want := contentOf(t, d)
	s := opened(t, d)
	for range 2 {
		does(t, "Begin", s.Begin(), api.OK)
		for i := range 3 * most {
			does(t, "Put", s.Put(50, filled(1000+i)), api.OK)
			gets(t, "Put", s, 50, filled(1000+i), api.OK)
		}
		does(t, "End", s.End(true), api.OK)
		told(t, "End", s, 1, false, false)
	}
	// What was there before is a change like any other.
	call(t, s, map[int][]byte{51: want[51]}, true)
	told(t, "the same bytes", s, 2, false, false)
	does(t, "Sync", s.Sync(), api.OK)
	has(t, "Sync", d, want.with(map[int][]byte{50: filled(1000 + 3*most - 1)}))
}

// P11.1: as many blocks as a transaction may have, and one more, with blocks of earlier calls and without; the call goes on.
func TestMost(t *testing.T) {
	for _, earlier := range [][]int{nil, {64}, {63}, run(64, 20), run(64, most), run(100, most), run(90, most)} {
		for _, keep := range []bool{true, false} {
			d := device(192)
			want := contentOf(t, d).with(seeded(earlier, 1))
			s := opened(t, d)
			call(t, s, seeded(earlier, 1), true)
			x, y := seeded(run(64, most), 2), seeded(run(64, most), 3)
			does(t, "Begin", s.Begin(), api.OK)
			putAll(t, s, x)
			for range 2 {
				for _, n := range []int{0, 63, 64 + most, 64 + most + 20, 191} {
					does(t, "one more", s.Put(n, filled(1)), api.ErrNoSpace)
				}
				told(t, "one more", s, len(earlier), true, false)
				shows(t, "one more", s, want.with(x))
			}
			putAll(t, s, y)
			shows(t, "again", s, want.with(y))
			does(t, "End", s.End(keep), api.OK)
			if keep {
				want = want.with(y)
			}
			shows(t, "End", s, want)
			does(t, "Sync", s.Sync(), api.OK)
			has(t, "Sync", d, want)
			// The next call has room for as many again.
			call(t, s, seeded(run(110, most), 4), true)
			told(t, "End", s, most, false, false)
		}
	}
}

// P11.1: End(false): all blocks and Dirty as they were ahead of Begin, whatever earlier calls changed.
func TestUndo(t *testing.T) {
	for _, earlier := range [][]int{nil, {50}, {51}, {50, 51, 0}, run(64, 20), run(64, most)} {
		for _, numbers := range [][]int{nil, {50}, {50, 51}, {0, 63}, run(64, most), run(60, most), run(90, most)} {
			d := device(128)
			was := contentOf(t, d)
			want := was.with(seeded(earlier, 1))
			s := opened(t, d)
			call(t, s, seeded(earlier, 1), true)
			for seed := 2; seed < 5; seed++ {
				call(t, s, seeded(numbers, seed), false)
				told(t, "End(false)", s, len(earlier), false, false)
				shows(t, "End(false)", s, want)
				has(t, "End(false)", d, was)
			}
			does(t, "Sync", s.Sync(), api.OK)
			has(t, "Sync", d, want)
		}
	}
}

// P11.1: calls that have changed too many blocks together: those ahead of the present one are durable, and at their places; with less nothing is.
func TestTooMany(t *testing.T) {
	for _, earlier := range []int{0, 1, 2, 18, 20, 36, most} {
		for _, present := range []int{0, 1, 2, 17, 19, 36, most} {
			for _, both := range []int{0, 1, 17, 36, most} {
				if both <= min(earlier, present) {
					tooMany(t, earlier, present, both)
				}
			}
		}
	}
}

// tooMany makes calls of so many blocks, some of them in both.
func tooMany(t *testing.T, earlier, present, both int) {
	t.Helper()
	what := strconv.Itoa(earlier) + ", " + strconv.Itoa(present) + ", " + strconv.Itoa(both)
	d := device(192)
	was := contentOf(t, d)
	x, y := seeded(run(60, earlier), 1), seeded(run(60+earlier-both, present), 2)
	s := opened(t, d)
	// The earlier blocks are those of two calls.
	call(t, s, seeded(run(60, earlier/2), 3), true)
	call(t, s, x, true)
	does(t, what, s.Begin(), api.OK)
	putAll(t, s, y)
	has(t, what, d, was)
	does(t, what, s.End(true), api.OK)
	shows(t, what, s, was.with(x).with(y))
	if together := earlier + present - both; together > most {
		told(t, what, s, present, false, false)
		has(t, what, d, was.with(x))
		was = was.with(x)
	} else {
		told(t, what, s, together, false, false)
		has(t, what, d, was)
	}
	d.Crash(nil)
	has(t, what, d, was)
	shows(t, what, opened(t, d), was)
}

// P11.1: many calls without a Sync: Dirty is never more than a transaction may have, and all is there in the end.
func TestManyCalls(t *testing.T) {
	for _, size := range []int{1, 2, 5, 36, most} {
		d := device(128)
		want := contentOf(t, d)
		s := opened(t, d)
		for i := range 200 {
			x := seeded(run(43+i*7%40, size), i)
			call(t, s, x, true)
			want = want.with(x)
			if s.Dirty() < size || s.Dirty() > most {
				t.Fatal(s.Dirty())
			}
		}
		shows(t, "many calls", s, want)
		does(t, "Sync", s.Sync(), api.OK)
		has(t, "Sync", d, want)
	}
}

// P11.1: Sync with nothing changed, with one block, with as many as a transaction may have, and twice.
func TestSync(t *testing.T) {
	for _, numbers := range [][]int{nil, {50}, {0}, {127}, {60, 0, 50}, run(43, most), run(128-most, most)} {
		for _, open := range []bool{false, true} {
			d := device(128)
			want := contentOf(t, d).with(seeded(numbers, 1))
			s := opened(t, d)
			call(t, s, seeded(numbers, 1), true)
			told(t, "End", s, len(numbers), false, false)
			for range 2 {
				does(t, "Sync", s.Sync(), api.OK)
				told(t, "Sync", s, 0, false, false)
				shows(t, "Sync", s, want)
				has(t, "Sync", d, want)
			}
			d.Crash(nil)
			has(t, "Sync, and a crash", d, want)
			if open {
				s = opened(t, d)
			}
			shows(t, "Sync, and a crash", s, want)
		}
	}
}

// P11.1: Sync with nothing changed leaves the disk as it is: a journal of zeros, one of an earlier Sync, and what is unflushed.
func TestSyncNothing(t *testing.T) {
	d := device(64)
	s := opened(t, d)
	nothing := func() {
		t.Helper()
		before := journal(t, d)
		d.Write(60, filled(7))
		d.SetFuse(0)
		for range 3 {
			does(t, "Sync", s.Sync(), api.OK)
			does(t, "Begin", s.Begin(), api.OK)
			does(t, "End", s.End(true), api.OK)
		}
		if d.Down() || d.Unflushed() != 1 {
			t.Fatal(d.Down(), d.Unflushed())
		}
		d.Crash(nil)
		if !slices.EqualFunc(journal(t, d), before, bytes.Equal) {
			t.Fatal("the journal is changed")
		}
	}
	nothing()
	if slices.ContainsFunc(journal(t, d), func(b []byte) bool { return !bytes.Equal(b, make([]byte, 256)) }) {
		t.Fatal("there is a journal")
	}
	call(t, s, seeded([]int{50}, 1), true)
	does(t, "Sync", s.Sync(), api.OK)
	nothing()
	call(t, s, seeded([]int{50}, 2), false)
	nothing()
}

// journal reads the blocks of the journal.
func journal(t *testing.T, d *disk.Disk) [][]byte {
	t.Helper()
	var all [][]byte
	for n := journalAt; n <= journalEnd; n++ {
		b, e := d.Read(n)
		does(t, "Read", e, api.OK)
		all = append(all, b)
	}
	return all
}

// synced makes one call of these blocks and a Sync, and holds what the journal has then.
func synced(t *testing.T, d *disk.Disk, s *Store, seq uint32, blocks map[int][]byte) {
	t.Helper()
	call(t, s, blocks, true)
	does(t, "Sync", s.Sync(), api.OK)
	inJournal(t, d, seq, blocks)
}

// inJournal holds that the journal has the transaction of these blocks.
func inJournal(t *testing.T, d *disk.Disk, seq uint32, blocks map[int][]byte) {
	t.Helper()
	x, ok, e := log.Read(d)
	if !ok || e != api.OK || x.Seq != seq || len(x.Numbers) != len(blocks) {
		t.Fatalf("in the journal: %d, %v, %v, %v, not %d", x.Seq, x.Numbers, ok, e, seq)
	}
	for i, n := range x.Numbers {
		if !bytes.Equal(x.Data[i], blocks[n]) {
			t.Fatalf("in the journal: block %d is %x, not %x", n, x.Data[i], blocks[n])
		}
	}
}

// P11.1: sequences: from 1 on without a journal, one more from Sync to Sync and from Open to Open, and behind 2^32 - 1 comes 0.
func TestSequences(t *testing.T) {
	d := device(64)
	for seq := uint32(1); seq < 20; {
		s := opened(t, d)
		for range 3 {
			synced(t, d, s, seq, seeded([]int{50, int(seq)%20 + 43}, int(seq)))
			does(t, "Sync of nothing", s.Sync(), api.OK)
			seq++
		}
		d.Crash(nil)
	}
	for _, last := range []uint32{0, 255, 1<<16 - 1, 1<<31 - 1, 1 << 31, 1<<32 - 3, 1<<32 - 2, 1<<32 - 1} {
		d := device(64)
		does(t, "Write", log.Write(d, logged(last, seeded([]int{50}, 1))), api.OK)
		next := last + 1
		for range 3 {
			synced(t, d, opened(t, d), next, seeded([]int{51}, 2))
			s := opened(t, d)
			call(t, s, seeded([]int{52}, 3), false)
			synced(t, d, s, next+1, seeded([]int{60, 50}, 3))
			next += 2
		}
	}
}

// P11.1: a head without an end counts for the sequence, too; and calls that are too many together take one.
func TestSequencesHead(t *testing.T) {
	for _, last := range []uint32{0, 8, 1<<32 - 1} {
		d := device(128)
		does(t, "Write", log.Write(d, logged(last, seeded([]int{50}, 1))), api.OK)
		d.Damage(journalEnd, make([]byte, 256))
		s := opened(t, d)
		x := seeded(run(64, most), 2)
		call(t, s, x, true)
		if _, ok, _ := log.Read(d); ok {
			t.Fatal("End writes a transaction")
		}
		call(t, s, seeded([]int{50}, 3), true)
		inJournal(t, d, last+1, x)
		does(t, "Sync", s.Sync(), api.OK)
		inJournal(t, d, last+2, seeded([]int{50}, 3))
	}
}

// overEverywhere holds that a store is over: each call returns ErrIO, whatever its arguments, and the zero value of all else.
func overEverywhere(t *testing.T, what string, s *Store) {
	t.Helper()
	none, some := ends(128)
	for range 2 {
		told(t, what, s, 0, false, true)
		does(t, what, s.Begin(), api.ErrIO)
		does(t, what, s.Sync(), api.ErrIO)
		does(t, what, s.End(true), api.ErrIO)
		does(t, what, s.End(false), api.ErrIO)
		for _, n := range slices.Concat(none, some, run(64, 20)) {
			gets(t, what, s, n, nil, api.ErrIO)
			for _, length := range []int{0, 255, 256, 257} {
				does(t, what, s.Put(n, make([]byte, length)), api.ErrIO)
			}
			does(t, what, s.Put(n, nil), api.ErrIO)
		}
	}
}

// P11.1: the power failing at each change of a Sync, and of an End for which earlier calls are made durable: the store is over, and stays so.
func TestOver(t *testing.T) {
	for _, c := range []struct {
		earlier, present []int
		last             func(s *Store) api.Errno
	}{
		{run(64, 1), nil, (*Store).Sync},
		{run(64, 2), nil, (*Store).Sync},
		{run(64, most), nil, (*Store).Sync},
		{run(64, most), run(63, 1), func(s *Store) api.Errno { return s.End(true) }},
		{run(64, 20), run(80, 30), func(s *Store) api.Errno { return s.End(true) }},
	} {
		fuse := 0
		for ; ; fuse++ {
			d := device(128)
			was, x := contentOf(t, d), seeded(c.earlier, 1)
			s := opened(t, d)
			call(t, s, x, true)
			if c.present != nil {
				does(t, "Begin", s.Begin(), api.OK)
				putAll(t, s, seeded(c.present, 2))
			}
			d.SetFuse(fuse)
			e := c.last(s)
			if e == api.OK {
				told(t, "last", s, len(c.present), false, false)
				break
			}
			does(t, "last", e, api.ErrIO)
			overEverywhere(t, "fuse "+strconv.Itoa(fuse), s)
			d.Crash(patterns[fuse%len(patterns)])
			overEverywhere(t, "with power again", s)
			if got := contentOf(t, d); fuse == 0 && !got.is(was) {
				t.Fatal("a change that fails is done")
			}
		}
		// Each block is written twice, in the journal and at its place, beside the head, the end, and what is flushed between.
		if fuse < 2*len(c.earlier)+4 || fuse > 2*len(c.earlier)+10 {
			t.Fatalf("%d changes", fuse)
		}
	}
}

// P11.1: Get meets ErrIO, outside a call and within one: the store is over.
func TestGetOver(t *testing.T) {
	for _, within := range []bool{false, true} {
		d := device(128)
		s := opened(t, d)
		call(t, s, seeded([]int{50, 51}, 1), true)
		if within {
			does(t, "Begin", s.Begin(), api.OK)
			putAll(t, s, seeded([]int{52}, 2))
		}
		fail(d)
		told(t, "without power", s, 2, within, false)
		gets(t, "without power", s, 60, nil, api.ErrIO)
		overEverywhere(t, "behind Get", s)
		d.Crash([]bool{true})
		overEverywhere(t, "with power again", s)
	}
}

// P11.1: without power, calls that do not need the disk do what they do otherwise, and the store is not over.
func TestWithoutPower(t *testing.T) {
	d := device(128)
	was := contentOf(t, d)
	s := opened(t, d)
	fail(d)
	told(t, "without power", s, 0, false, false)
	does(t, "Sync of nothing", s.Sync(), api.OK)
	gets(t, "no block", s, -1, nil, api.ErrArg)
	gets(t, "no block", s, 128, nil, api.ErrArg)
	x, y := seeded(run(64, 20), 1), seeded(run(80, 21), 2)
	for _, keep := range []bool{false, true} {
		does(t, "Put outside", s.Put(50, filled(1)), api.ErrBusy)
		does(t, "End outside", s.End(true), api.ErrBusy)
		does(t, "Begin", s.Begin(), api.OK)
		does(t, "Begin within", s.Begin(), api.ErrBusy)
		does(t, "Sync within", s.Sync(), api.ErrBusy)
		does(t, "Put of no block", s.Put(128, filled(1)), api.ErrArg)
		putAll(t, s, x)
		gets(t, "of the call", s, 64, x[64], api.OK)
		does(t, "End", s.End(keep), api.OK)
	}
	told(t, "without power", s, 20, false, false)
	gets(t, "of an earlier call", s, 64, x[64], api.OK)
	call(t, s, y, true)
	told(t, "without power", s, most, false, false)
	gets(t, "of two calls", s, 80, y[80], api.OK)
	d.Crash(nil)
	shows(t, "with power again", s, was.with(x).with(y))
	does(t, "Sync", s.Sync(), api.OK)
	has(t, "Sync", d, was.with(x).with(y))
}

// P11.1: a disk that is cut has no such blocks any more: ErrArg, also of layer 10 for what had been changed, and nothing changed.
func TestCut(t *testing.T) {
	d := device(128)
	s := opened(t, d)
	x := seeded([]int{50, 100, 127}, 1)
	call(t, s, x, true)
	does(t, "Cut", d.Cut(100), api.OK)
	gets(t, "cut", s, 100, nil, api.ErrArg)
	gets(t, "cut", s, 50, x[50], api.OK)
	does(t, "Sync", s.Sync(), api.ErrArg)
	told(t, "Sync", s, 3, false, false)
	does(t, "Begin", s.Begin(), api.OK)
	does(t, "Put", s.Put(100, filled(1)), api.ErrArg)
	putAll(t, s, seeded(run(60, most), 2))
	does(t, "End", s.End(true), api.ErrArg)
	told(t, "End", s, 3, true, false)
	does(t, "End", s.End(false), api.OK)
	gets(t, "End(false)", s, 60, filled(60), api.OK)
	gets(t, "End(false)", s, 50, x[50], api.OK)
}

// action is one call on a store, by its letter: B, K (End that keeps), U (End that undoes), P (Put), G (Get), S.
type action struct {
	letter byte
	n      int
	b      []byte
}

// twin is a store and what the chapter says of it, worked out plainly.
type twin struct {
	d       *disk.Disk
	s       *Store
	now     content // as Get tells it
	ahead   content // as it was ahead of the call that is open
	durable content
	dirty   map[int][]byte
	present map[int][]byte // nil outside a call
}

// twinOf opens a store on a disk whose content is known.
func twinOf(t *testing.T, d *disk.Disk, now content) *twin {
	t.Helper()
	return &twin{d: d, s: opened(t, d), now: now, durable: now, dirty: map[int][]byte{}}
}

// do makes the call, and holds its error.
func (w *twin) do(t *testing.T, a action) {
	t.Helper()
	busy := (w.present != nil) != (a.letter == 'K' || a.letter == 'U' || a.letter == 'P')
	want := api.OK
	if busy && a.letter != 'G' {
		want = api.ErrBusy
	}
	switch a.letter {
	case 'B':
		does(t, "Begin", w.s.Begin(), want)
	case 'K', 'U':
		does(t, "End", w.s.End(a.letter == 'K'), want)
	case 'P':
		if !busy {
			want = w.putError(a)
		}
		does(t, "Put", w.s.Put(a.n, a.b), want)
	case 'G':
		gets(t, "Get", w.s, a.n, w.now[a.n], api.OK)
	case 'S':
		does(t, "Sync", w.s.Sync(), want)
	}
	if want == api.OK {
		w.follow(a)
	}
	told(t, string(a.letter), w.s, len(w.dirty), w.present != nil, false)
}

// putError says what Put returns within a call.
func (w *twin) putError(a action) api.Errno {
	_, again := w.present[a.n]
	switch {
	case a.n < 0 || a.n >= len(w.now) || len(a.b) != 256:
		return api.ErrArg
	case !again && len(w.present) == most:
		return api.ErrNoSpace
	}
	return api.OK
}

// follow does plainly what a call does that returns OK.
func (w *twin) follow(a action) {
	switch a.letter {
	case 'B':
		w.present, w.ahead = map[int][]byte{}, w.now
	case 'P':
		w.present[a.n] = a.b
		w.now = w.now.with(map[int][]byte{a.n: a.b})
	case 'U':
		w.present, w.now = nil, w.ahead
	case 'K':
		both := maps.Clone(w.dirty)
		maps.Copy(both, w.present)
		if len(both) > most {
			w.durable, both = w.ahead, w.present
		}
		w.dirty, w.present = both, nil
	case 'S':
		w.dirty, w.durable = map[int][]byte{}, w.now
	}
}

// holds holds all blocks: what Get tells of them, and what is on the disk.
func (w *twin) holds(t *testing.T) {
	t.Helper()
	shows(t, "the store", w.s, w.now)
	has(t, "the disk", w.d, w.durable)
}

// P11.1: all orders of up to five calls on three blocks, held against the plain store behind each call.
func TestAllOrders(t *testing.T) {
	all := []action{{letter: 'B'}, {letter: 'K'}, {letter: 'U'}, {'P', 50, filled(900)}, {'P', 50, filled(901)}, {'P', 63, filled(902)}, {letter: 'S'}, {letter: 'G', n: 50}}
	was := contentOf(t, device(64))
	for length := range 6 {
		count := 1
		for range length {
			count *= len(all)
		}
		for order := range count {
			w := twinOf(t, blank(was), was)
			for range length {
				w.do(t, all[order%len(all)])
				order /= len(all)
			}
			for _, n := range []int{0, 50, 51, 63} {
				gets(t, "behind it all", w.s, n, w.now[n], api.OK)
			}
			if length < 5 {
				w.holds(t)
			}
		}
	}
}

// blank returns a disk of that content.
func blank(c content) *disk.Disk {
	d := disk.New(len(c))
	for _, n := range []int{0, 1, 2} {
		d.Damage(n, c[n])
	}
	for n := journalEnd + 1; n < len(c); n++ {
		d.Damage(n, c[n])
	}
	return d
}

// lots draws numbers, the same ones each time.
type lots uint64

// below draws a number from 0 to n - 1.
func (l *lots) below(n int) int {
	*l = *l*6364136223846793005 + 1442695040888963407
	return int(uint64(*l) >> 33 % uint64(n))
}

// draw returns an action, a Put more often than others; of eighty numbers some have no block.
func (l *lots) draw(blocks int) action {
	n := journalEnd + 1 + l.below(blocks-journalEnd-1)
	switch k := l.below(100); {
	case k < 8:
		return action{letter: 'B'}
	case k < 12:
		return action{letter: 'K'}
	case k < 14:
		return action{letter: 'U'}
	case k < 15:
		return action{letter: 'S'}
	case k < 20:
		return action{'G', n, nil}
	case k < 22:
		return action{'P', []int{-1, blocks, n}[l.below(3)], make([]byte, 255+l.below(3))}
	}
	return action{'P', n, filled(l.below(60000))}
}

// P11.1, P11.2: long histories held against the plain store, with a crash and Open now and then: what was durable is there.
func TestHistories(t *testing.T) {
	for seed := range 12 {
		blocks := []int{64, 80, 128, 200}[seed%4]
		l, d := lots(seed), device(blocks)
		w := twinOf(t, d, contentOf(t, d))
		for i := range 4000 {
			w.do(t, l.draw(blocks))
			if i%40 == 0 {
				w.holds(t)
			}
			if l.below(500) == 0 {
				d.Crash(patterns[l.below(len(patterns))])
				has(t, "a crash", d, w.durable)
				w = twinOf(t, d, w.durable)
			}
		}
	}
}

// part is one call of a script: blocks that it puts, whether they remain, and whether a Sync comes behind.
type part struct {
	numbers    []int
	keep, sync bool
}

// scripts holds calls of all sizes, which change the same blocks and others, with and without Syncs.
var scripts = [][]part{
	{{run(50, 3), true, true}},
	{{[]int{50}, true, false}, {[]int{51, 50}, true, false}, {[]int{60, 50}, false, false}, {[]int{0, 63}, true, true}, {[]int{50, 60}, true, false}},
	{{[]int{50, 51}, true, true}, {[]int{51, 52}, true, true}, {nil, true, true}, {[]int{50, 51}, false, true}, {[]int{50, 52}, true, true}},
	{{run(64, most), true, false}, {run(90, most), true, false}, {[]int{0}, true, false}, {run(64, most), true, true}},
	{{run(64, 15), true, false}, {run(70, 15), true, false}, {run(80, 15), true, false}, {run(90, 15), false, false}, {run(64, 15), true, false}, {run(90, 15), true, true}},
}

// played is what a script came to: how the blocks were behind each call that remained, how many calls there are, and how many of them are durable.
type played struct {
	states        []content
	ended, synced int
	failed        bool
}

// play plays a script until a call returns ErrIO.
func play(t *testing.T, d *disk.Disk, s *Store, script []part, p *played) {
	t.Helper()
	dirty := map[int][]byte{}
	for i, c := range script {
		x := seeded(c.numbers, i)
		does(t, "Begin", s.Begin(), api.OK)
		putAll(t, s, x)
		if p.failed = s.End(c.keep) != api.OK; p.failed {
			return
		}
		if c.keep {
			maps.Copy(dirty, x)
			if len(dirty) > most {
				dirty, p.synced = x, p.ended
			}
			p.states = append(p.states, p.states[p.ended].with(x))
			p.ended++
		}
		if c.sync {
			if p.failed = s.Sync() != api.OK; p.failed {
				return
			}
			dirty, p.synced = map[int][]byte{}, p.ended
		}
	}
}

// reopened opens a store behind a crash, with the power failing again and again within Open.
func reopened(t *testing.T, d *disk.Disk, keep []bool) *Store {
	t.Helper()
	for fuse := range 5 {
		d.SetFuse(fuse * fuse)
		s, e := Open(d)
		if (s == nil) != (e != api.OK) || e != api.OK && e != api.ErrIO {
			t.Fatal(s, e)
		}
		d.Crash(keep)
	}
	return opened(t, d)
}

// P11.2: scripts with the power failing at each change, whatever is kept: some first calls are there, all up to the last Sync among them, each wholly.
func TestCrashes(t *testing.T) {
	for i, script := range scripts {
		for _, keep := range patterns {
			for fuse := 0; ; fuse++ {
				what := "script " + strconv.Itoa(i) + ", fuse " + strconv.Itoa(fuse)
				d := device(128)
				p := played{states: []content{contentOf(t, d)}}
				s := opened(t, d)
				d.SetFuse(fuse)
				play(t, d, s, script, &p)
				if s.Over() != p.failed {
					t.Fatal(what, s.Over())
				}
				d.Crash(keep)
				s = reopened(t, d, keep)
				got := contentOf(t, d)
				// What is not durable becomes so all at once: there is no state between.
				if !got.is(p.states[p.synced]) && !(p.failed && got.is(p.states[p.ended])) {
					t.Fatalf("%s, keep %v: not as behind call %d, nor as behind call %d", what, keep, p.synced, p.ended)
				}
				shows(t, what, s, got)
				goesOn(t, d, s, got)
				if !p.failed {
					break
				}
			}
		}
	}
}

// goesOn holds that a store does what stores do.
func goesOn(t *testing.T, d *disk.Disk, s *Store, was content) {
	t.Helper()
	x, y := seeded([]int{50, 127}, 50), seeded([]int{51, 127}, 51)
	call(t, s, x, true)
	does(t, "Sync", s.Sync(), api.OK)
	call(t, s, y, true)
	shows(t, "it goes on", s, was.with(x).with(y))
	d.Crash(nil)
	shows(t, "it goes on, and a crash", opened(t, d), was.with(x))
}

// P11.2: from crash to crash: a store is opened with a fuse, used until the power fails, and opened again, many times.
func TestCrashUponCrash(t *testing.T) {
	for i, keep := range patterns {
		l, d := lots(i), device(128)
		state := contentOf(t, d)
		for range 150 {
			d.SetFuse(l.below(120))
			p := played{states: []content{state}}
			if s, e := Open(d); e == api.OK {
				play(t, d, s, scripts[l.below(len(scripts))], &p)
			}
			d.Crash(keep)
			opened(t, d)
			state = contentOf(t, d)
			if !state.is(p.states[p.synced]) && !(p.failed && state.is(p.states[p.ended])) {
				t.Fatalf("keep %v: not as behind call %d, nor as behind call %d", keep, p.synced, p.ended)
			}
		}
	}
}

// P11.1: the chapter's example.
func TestExample(t *testing.T) {
	d := disk.New(64)
	s := opened(t, d)
	does(t, "Begin", s.Begin(), api.OK)
	does(t, "Put", s.Put(50, filled(1)), api.OK)
	gets(t, "Put", s, 50, filled(1), api.OK)
	does(t, "End", s.End(false), api.OK)
	gets(t, "End(false)", s, 50, make([]byte, 256), api.OK)
}

// R3: Put leaves a block and what lies behind it as it is, and does not keep it, whatever becomes of the call.
func TestArgumentsStay(t *testing.T) {
	d := device(64)
	was := contentOf(t, d)
	s := opened(t, d)
	b := append(slices.Clone(filled(900)), "spare"...)[:256]
	does(t, "Begin", s.Begin(), api.OK)
	does(t, "Put", s.Put(50, b), api.OK)
	does(t, "Put", s.Put(51, b), api.OK)
	does(t, "Put of no block", s.Put(64, b), api.ErrArg)
	if !bytes.Equal(b, filled(900)) || string(b[256:261]) != "spare" {
		t.Fatal("an argument is changed")
	}
	want := was.with(map[int][]byte{50: filled(900), 51: filled(900)})
	clear(b[:261])
	shows(t, "within", s, want)
	does(t, "End", s.End(true), api.OK)
	shows(t, "End", s, want)
	does(t, "Sync", s.Sync(), api.OK)
	shows(t, "Sync", s, want)
	has(t, "Sync", d, want)
	inJournal(t, d, 1, map[int][]byte{50: filled(900), 51: filled(900)})
}

// R3: what Get returns is new memory, spare capacity included: of the disk, of earlier calls, and of the present one.
func TestResultsAreNew(t *testing.T) {
	d := device(64)
	was := contentOf(t, d)
	s := opened(t, d)
	x, y := seeded([]int{50, 51}, 1), seeded([]int{51, 52}, 2)
	call(t, s, x, true)
	does(t, "Begin", s.Begin(), api.OK)
	putAll(t, s, y)
	want := was.with(x).with(y)
	for _, n := range []int{50, 51, 52, 53} {
		first, _ := s.Get(n)
		second, _ := s.Get(n)
		clear(first[:cap(first)])
		if !bytes.Equal(second, want[n]) {
			t.Fatalf("two results for block %d share memory", n)
		}
		shows(t, "a result is changed", s, want)
		has(t, "a result is changed", d, was)
	}
	kept := map[int][]byte{}
	for _, n := range []int{50, 51, 52, 53} {
		kept[n], _ = s.Get(n)
	}
	does(t, "End", s.End(true), api.OK)
	call(t, s, seeded(run(43, 21), 3), true)
	does(t, "Sync", s.Sync(), api.OK)
	d.Cut(0)
	for n, b := range kept {
		if !bytes.Equal(b, want[n]) {
			t.Fatalf("the result for block %d changes with the store", n)
		}
	}
}

// R3: a Put of a block that is there already does not change what an earlier call made, nor what Get has returned.
func TestPutOverEarlier(t *testing.T) {
	d := device(64)
	s := opened(t, d)
	call(t, s, map[int][]byte{50: filled(901)}, true)
	b, _ := s.Get(50)
	does(t, "Begin", s.Begin(), api.OK)
	for i := range 3 {
		does(t, "Put", s.Put(50, filled(902+i)), api.OK)
	}
	does(t, "End", s.End(false), api.OK)
	gets(t, "End(false)", s, 50, filled(901), api.OK)
	if !bytes.Equal(b, filled(901)) {
		t.Fatal("a result changes with the store")
	}
}

// R2: two stores on two disks have nothing in common, and do the same for the same calls.
func TestStoresApart(t *testing.T) {
	a, b := device(64), device(64)
	was := contentOf(t, a)
	s, r := opened(t, a), opened(t, b)
	x := seeded([]int{50, 0}, 1)
	does(t, "Begin", s.Begin(), api.OK)
	told(t, "the other", r, 0, false, false)
	does(t, "Put", r.Put(50, filled(1)), api.ErrBusy)
	putAll(t, s, x)
	shows(t, "the other", r, was)
	does(t, "End", s.End(true), api.OK)
	told(t, "the other", r, 0, false, false)
	does(t, "Sync", s.Sync(), api.OK)
	has(t, "the other", b, was)
	shows(t, "the other", r, was)
	call(t, s, x, true)
	a.SetFuse(0)
	does(t, "Sync", s.Sync(), api.ErrIO)
	told(t, "the other", r, 0, false, false)
	synced(t, b, r, 1, x)
	if !slices.EqualFunc(journal(t, b), firstJournal(t, x), bytes.Equal) {
		t.Fatal("the same calls make another journal")
	}
	overEverywhere(t, "the first", s)
}

// firstJournal returns the journal of a new store whose only call puts these blocks.
func firstJournal(t *testing.T, blocks map[int][]byte) [][]byte {
	t.Helper()
	d := device(64)
	synced(t, d, opened(t, d), 1, blocks)
	return journal(t, d)
}
