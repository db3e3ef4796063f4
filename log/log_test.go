package log

import (
	"bytes"
	"hash/fnv"
	"math"
	"slices"
	"strconv"
	"testing"

	"ashlar/api"
	"ashlar/disk"
	"ashlar/txn"
)

// The places of the journal on each disk, and the most blocks of a transaction.
const (
	headBlock = 3
	endBlock  = 42
	most      = 37
)

// sequences holds the ends of all sequences, and some whose bytes differ.
var sequences = []uint32{0, 1, 1<<32 - 1, 1<<32 - 2, 7, 255, 256, 0x04030201, 1<<31 - 1, 1 << 31}

// patterns holds which unflushed Writes a crash keeps: none, all, every second one, the first ones, the last ones, and others.
var patterns = [][]bool{
	nil, {true}, {true, false}, {false, true}, {true, true, false}, {false, false, true},
	firsts(1), firsts(2), firsts(3), firsts(20), firsts(37), lasts(1), lasts(2), lasts(3), lasts(20), lasts(37),
	{true, false, false, true, false, true, true},
}

// firsts keeps the first n Writes of those that a transaction has at most, and a few more.
func firsts(n int) []bool {
	keep := make([]bool, most+8)
	for i := range n {
		keep[i] = true
	}
	return keep
}

// lasts keeps all Writes but the first n.
func lasts(n int) []bool {
	keep := firsts(n)
	for i := range keep {
		keep[i] = !keep[i]
	}
	return keep
}

// kept counts how many of the first n unflushed Writes a crash keeps.
func kept(n int, keep []bool) int {
	count := 0
	for i := range n {
		if len(keep) > 0 && keep[i%len(keep)] {
			count++
		}
	}
	return count
}

// full returns a block that differs from that of each other seed below 65536.
func full(seed int) []byte {
	b := make([]byte, 256)
	for i := range b {
		b[i] = byte(i*7 + seed*31 + i*seed/5 + 1)
	}
	b[100], b[200] = byte(seed), byte(seed>>8)
	return b
}

func zeros() []byte { return make([]byte, 256) }

// span returns count numbers from least on.
func span(least, count int) []int {
	all := make([]int, count)
	for i := range all {
		all[i] = least + i
	}
	return all
}

// some returns a transaction with these numbers, right or wrong, and a block for each, another one for another seed.
func some(seq uint32, numbers []int, seed int) txn.Txn {
	t := txn.Txn{Seq: seq, Numbers: numbers}
	for i := range numbers {
		t.Data = append(t.Data, full(10000+100*seed+i))
	}
	return t
}

// low writes n by division, the lowest byte first.
func low(n, size int) string {
	var b []byte
	for range size {
		b = append(b, byte(n%256))
		n /= 256
	}
	return string(b)
}

// sealed says the bytes of a sealed block with that content.
func sealed(content string) []byte {
	b := zeros()
	copy(b[:252], content)
	h := fnv.New32a()
	h.Write(b[:252])
	copy(b[252:], low(int(h.Sum32()), 4))
	return b
}

// headOf says the bytes of a head, its numbers right or wrong.
func headOf(seq uint32, numbers []int) []byte {
	s := "jrnl" + low(int(seq), 4) + low(len(numbers), 2)
	for _, n := range numbers {
		s += low(n, 2)
	}
	return sealed(s)
}

// endOf says the bytes of an end.
func endOf(seq uint32) []byte {
	return sealed("done" + low(int(seq), 4))
}

// picture is all blocks of a disk.
type picture [][]byte

// disked returns a disk whose blocks all differ, flushed, and its picture: there is neither a head nor an end.
func disked(blocks int) (*disk.Disk, picture) {
	d, p := disk.New(blocks), picture{}
	for n := range blocks {
		p = append(p, full(n))
		d.Write(n, full(n))
	}
	d.Flush()
	return d, p
}

// taken reads all blocks of a disk.
func taken(t *testing.T, d *disk.Disk) picture {
	t.Helper()
	p := picture{}
	for n := range d.Blocks() {
		b, e := d.Read(n)
		if e != api.OK {
			t.Fatalf("block %d cannot be read: %v", n, e)
		}
		p = append(p, b)
	}
	return p
}

// looks holds that a disk has exactly these blocks.
func looks(t *testing.T, what string, d *disk.Disk, want picture) {
	t.Helper()
	got := taken(t, d)
	if len(got) != len(want) {
		t.Fatalf("%s: %d blocks, not %d", what, len(got), len(want))
	}
	for n := range want {
		if !bytes.Equal(got[n], want[n]) {
			t.Fatalf("%s: block %d is %x, not %x", what, n, got[n], want[n])
		}
	}
}

// with returns a picture in which one block is another one.
func (p picture) with(n int, b []byte) picture {
	q := slices.Clone(p)
	q[n] = b
	return q
}

// home returns a picture in which the blocks of a transaction are at their numbers.
func (p picture) home(x txn.Txn) picture {
	q := slices.Clone(p)
	for i, n := range x.Numbers {
		q[n] = x.Data[i]
	}
	return q
}

// headed returns a picture with the head of a transaction and its blocks behind it in the journal.
func (p picture) headed(x txn.Txn) picture {
	q := p.with(headBlock, headOf(x.Seq, x.Numbers))
	copy(q[headBlock+1:], x.Data)
	return q
}

// stored returns a picture whose journal has the transaction.
func (p picture) stored(x txn.Txn) picture {
	return p.headed(x).with(endBlock, endOf(x.Seq))
}

// lay makes a disk look like a picture, flushed, past its power.
func (p picture) lay(d *disk.Disk) {
	for n, b := range p {
		d.Damage(n, b)
	}
}

// does asks for an error.
func does(t *testing.T, what string, e, want api.Errno) {
	t.Helper()
	if e != want {
		t.Fatalf("%s: %v, not %v", what, e, want)
	}
}

func sameTxn(a, b txn.Txn) bool {
	return a.Seq == b.Seq && slices.Equal(a.Numbers, b.Numbers) && slices.EqualFunc(a.Data, b.Data, bytes.Equal)
}

func clone(x txn.Txn) txn.Txn {
	y := txn.Txn{Seq: x.Seq, Numbers: slices.Clone(x.Numbers)}
	for _, b := range x.Data {
		y.Data = append(y.Data, slices.Clone(b))
	}
	return y
}

// reads holds that the journal has exactly this transaction.
func reads(t *testing.T, d *disk.Disk, want txn.Txn) {
	t.Helper()
	x, ok, e := Read(d)
	if !ok || e != api.OK || !sameTxn(x, want) {
		t.Fatalf("Read: %d, %v, %d blocks, %v, %v, not %d, %v", x.Seq, x.Numbers, len(x.Data), ok, e, want.Seq, want.Numbers)
	}
}

// readsNone holds that Read returns a zero transaction, false and this error.
func readsNone(t *testing.T, d *disk.Disk, want api.Errno) {
	t.Helper()
	x, ok, e := Read(d)
	if ok || e != want || x.Seq != 0 || x.Numbers != nil || x.Data != nil {
		t.Fatalf("Read: %d, %v, %d blocks, %v, %v, not none and %v", x.Seq, x.Numbers, len(x.Data), ok, e, want)
	}
}

// recovers holds what Recover returns.
func recovers(t *testing.T, d *disk.Disk, want uint32, wantE api.Errno) {
	t.Helper()
	if seq, e := Recover(d); seq != want || e != wantE {
		t.Fatalf("Recover: %d, %v, not %d, %v", seq, e, want, wantE)
	}
}

// refuses holds that all four calls, or without all just Write and Home, return ErrArg and do nothing, with the power on and off.
func refuses(t *testing.T, what string, d *disk.Disk, x txn.Txn, all bool) {
	t.Helper()
	was, before := clone(x), picture{}
	if !d.Down() {
		before = taken(t, d)
	}
	unflushed, down := d.Unflushed(), d.Down()
	// Any change would burn the fuse.
	d.SetFuse(0)
	does(t, what+": Write", Write(d, x), api.ErrArg)
	does(t, what+": Home", Home(d, x), api.ErrArg)
	if all {
		readsNone(t, d, api.ErrArg)
		recovers(t, d, 0, api.ErrArg)
	}
	if d.Unflushed() != unflushed || d.Down() != down || !sameTxn(x, was) {
		t.Fatalf("%s: %d unflushed, down %v", what, d.Unflushed(), d.Down())
	}
	d.SetFuse(-1)
	if !down {
		looks(t, what, d, before)
	}
}

// P10.1, P10.2, R1: a nil disk and disks of fewer than 64 blocks, with and without power, also for transactions that would fit.
func TestSmallDisk(t *testing.T) {
	wrong := txn.Txn{Numbers: []int{1}}
	for _, x := range []txn.Txn{{}, some(5, nil, 1), some(5, []int{0}, 1), some(5, []int{50, 0, 60}, 1), wrong} {
		refuses(t, "nil", nil, x, true)
		refuses(t, "zero", &disk.Disk{}, x, true)
		for _, blocks := range []int{0, 1, 2, 3, 42, 43, 62, 63} {
			what := strconv.Itoa(blocks) + " blocks"
			d, _ := disked(blocks)
			refuses(t, what, d, x, true)
			d.Write(0, full(99))
			refuses(t, what, d, x, true)
			d.SetFuse(0)
			d.Flush()
			refuses(t, what+" without power", d, x, true)
		}
	}
}

// P10.1: a disk that was cut to fewer blocks than 64 has no journal any more, though it had one.
func TestCutDisk(t *testing.T) {
	x := some(5, []int{50, 0, 60}, 1)
	d, _ := disked(128)
	does(t, "Write", Write(d, x), api.OK)
	d.Cut(64)
	reads(t, d, x)
	d.Cut(63)
	refuses(t, "cut", d, x, true)
}

// P10.1, P10.2: disks of 64 blocks and more do, each block that a transaction can have included.
func TestDisks(t *testing.T) {
	for _, blocks := range []int{64, 65, 100, 128, 767, 768, 769, 1000, 2000} {
		last := min(blocks, 768) - 1
		for _, numbers := range [][]int{nil, {0}, {last}, {last, 0}, {50, 0, 60, last}, span(last-most+1, most), span(0, most)} {
			x := some(9, numbers, 1)
			d, p := disked(blocks)
			recovers(t, d, 1, api.OK)
			looks(t, "Recover without a head", d, p)
			does(t, "Write", Write(d, x), api.OK)
			looks(t, "Write", d, p.stored(x))
			reads(t, d, x)
			does(t, "Home", Home(d, x), api.OK)
			looks(t, "Home", d, p.stored(x).home(x))
		}
	}
}

// malformed holds transactions that are not well formed, whatever disk they are for.
func malformed() []txn.Txn {
	b := full(1)
	list := []txn.Txn{
		{Numbers: []int{1}}, {Data: [][]byte{b}}, {Numbers: []int{1, 2}, Data: [][]byte{b}}, {Numbers: []int{1}, Data: [][]byte{b, b}},
		{Numbers: []int{1}, Data: [][]byte{nil}}, some(5, span(5, most+1), 1), some(5, span(0, 64), 1),
	}
	for _, n := range []int{math.MinInt, -1 << 32, -1<<32 + 5, -65535, -64, -1, 768, 769, 1999, 65536, 65541, 1<<32 + 5, math.MaxInt} {
		list = append(list, some(5, []int{n}, 1), some(5, []int{50, 0, n}, 1), some(5, append([]int{n}, span(1, most-1)...), 1))
	}
	for _, n := range []int{0, 5, 63} {
		list = append(list, some(5, []int{n, n}, 1), some(5, []int{n, 9, n}, 1), some(5, append(span(n, most-1), n), 1))
	}
	for _, length := range []int{0, 1, 255, 257, 512} {
		x := some(5, []int{50, 0, 60}, 1)
		for i := range x.Data {
			y := clone(x)
			y.Data[i] = bytes.Repeat([]byte{7}, length)
			list = append(list, y)
		}
	}
	return list
}

// P10.1: transactions that are not well formed, on disks of all sizes, with what is unflushed and without, with power and without.
func TestMalformed(t *testing.T) {
	for _, blocks := range []int{64, 65, 768, 769, 2000} {
		d, _ := disked(blocks)
		for range 2 {
			for i, x := range malformed() {
				refuses(t, "malformed "+strconv.Itoa(i), d, x, false)
			}
			d.Write(50, full(99))
			d.Write(endBlock, full(98))
		}
		d.SetFuse(0)
		d.Flush()
		for i, x := range malformed() {
			refuses(t, "malformed without power "+strconv.Itoa(i), d, x, false)
		}
	}
}

// P10.1: a number that is the disk's number of blocks, or one more, at each place of a transaction; one less does.
func TestBeyondDisk(t *testing.T) {
	for _, blocks := range []int{64, 65, 100, 128, 255, 256, 257, 512, 704, 766, 767} {
		d, p := disked(blocks)
		for _, count := range []int{1, 2, 3, most} {
			for i := range count {
				numbers := span(1, count)
				for _, n := range []int{blocks, blocks + 1, 767} {
					numbers[i] = n
					if n >= blocks {
						refuses(t, "number "+strconv.Itoa(n), d, some(5, numbers, 1), false)
					}
				}
				numbers[i] = blocks - 1
				x := some(5, numbers, 1)
				does(t, "Write", Write(d, x), api.OK)
				looks(t, "Write", d, p.stored(x))
				does(t, "Home", Home(d, x), api.OK)
				looks(t, "Home", d, p.stored(x).home(x))
				p.lay(d)
			}
		}
	}
}

// P10.1: where the head, the blocks and the end lie, all of their bytes, all other blocks as before, and nothing unflushed.
func TestWriteLays(t *testing.T) {
	for _, blocks := range []int{64, 768} {
		for _, seq := range sequences {
			for _, numbers := range [][]int{nil, {}, {0}, {63}, {50, 0}, {headBlock, endBlock, 41}, {63, 1, 2, 43}, span(0, most-1), span(20, most)} {
				x := some(seq, numbers, 1)
				d, p := disked(blocks)
				does(t, "Write", Write(d, x), api.OK)
				if d.Unflushed() != 0 || d.Down() {
					t.Fatal(d.Unflushed(), d.Down())
				}
				looks(t, "Write", d, p.stored(x))
				d.Crash(nil)
				looks(t, "Write, and a crash", d, p.stored(x))
				reads(t, d, x)
			}
		}
	}
}

// P10.1: what the chapters say byte by byte, for one transaction.
func TestWriteBytes(t *testing.T) {
	d := disk.New(64)
	x := some(0x04030201, []int{60, 0}, 1)
	does(t, "Write", Write(d, x), api.OK)
	for n, b := range taken(t, d) {
		want := zeros()
		switch n {
		case 3:
			copy(want, "jrnl\x01\x02\x03\x04\x02\x00\x3c\x00\x00\x00")
			copy(want[252:], b[252:])
		case 4, 5:
			want = x.Data[n-4]
		case 42:
			copy(want, "done\x01\x02\x03\x04")
			copy(want[252:], b[252:])
		}
		if !bytes.Equal(b, want) {
			t.Errorf("block %d: %x, not %x", n, b, want)
		}
	}
}

// P10.1: what is unflushed ahead of a Write is flushed by it, also where the transaction has the same blocks at home, and in the journal.
func TestWriteFlushes(t *testing.T) {
	for _, numbers := range [][]int{nil, {50}, {50, 0, 60}, span(10, most)} {
		x := some(5, numbers, 1)
		d, p := disked(64)
		for i, n := range []int{50, 63, 0, 50, headBlock, 4, 41, endBlock, 10} {
			d.Write(n, full(1000+i))
			p = p.with(n, full(1000+i))
		}
		does(t, "Write", Write(d, x), api.OK)
		if d.Unflushed() != 0 {
			t.Fatal(d.Unflushed())
		}
		d.Crash(nil)
		looks(t, "Write", d, p.stored(x))
	}
}

// changed is one step of a Write: blocks that it makes others, in any order, and then a Flush.
type changed struct {
	at     int
	blocks [][]byte
}

// stepsOf says the steps of a Write in the chapter's order.
func stepsOf(x txn.Txn) []changed {
	return []changed{
		{0, nil},
		{endBlock, [][]byte{zeros()}},
		{headBlock, append([][]byte{headOf(x.Seq, x.Numbers)}, x.Data...)},
		{endBlock, [][]byte{endOf(x.Seq)}},
	}
}

// changes counts the Writes and Flushes of a Write of x.
func changes(x txn.Txn) int {
	count := 0
	for _, s := range stepsOf(x) {
		count += len(s.blocks) + 1
	}
	return count
}

// P10.1: the power failing at each change, with the unflushed Writes kept in each pattern: each step is flushed before the next one begins.
func TestWriteSteps(t *testing.T) {
	for _, count := range []int{0, 1, 2, 5, most} {
		x := some(5, span(20, count), 1)
		for fuse := range changes(x) + 2 {
			for _, keep := range patterns {
				for _, pending := range []int{0, 1, 3} {
					writeSteps(t, x, fuse, keep, pending)
				}
			}
		}
	}
}

// writeSteps plays one case of TestWriteSteps, with some Writes pending ahead of it.
func writeSteps(t *testing.T, x txn.Txn, fuse int, keep []bool, pending int) {
	t.Helper()
	d, p := disked(64)
	old := some(4, []int{44, 45}, 2)
	p = p.stored(old)
	p.lay(d)
	for i := range pending {
		d.Write(60+i, full(1000+i))
	}
	d.SetFuse(fuse)
	e := Write(d, x)
	if fuse >= changes(x) {
		does(t, "Write", e, api.OK)
	} else {
		does(t, "Write", e, api.ErrIO)
	}
	if d.Down() != (e != api.OK) {
		t.Fatalf("fuse %d: down %v", fuse, d.Down())
	}
	if fuse == 0 {
		if d.Unflushed() != pending {
			t.Fatalf("fuse 0: %d unflushed, not %d", d.Unflushed(), pending)
		}
		return
	}
	for i := range pending {
		p = p.with(60+i, full(1000+i))
	}
	left := fuse - 1
	for _, s := range stepsOf(x)[1:] {
		if left < len(s.blocks)+1 {
			part(t, d, p, s, left, keep)
			return
		}
		for i, b := range s.blocks {
			p = p.with(s.at+i, b)
		}
		left -= len(s.blocks) + 1
	}
	part(t, d, p, changed{}, 0, keep)
}

// part holds that behind a crash a disk looks like a picture, but for as many blocks of a step as were written and kept.
func part(t *testing.T, d *disk.Disk, p picture, s changed, written int, keep []bool) {
	t.Helper()
	if d.Unflushed() != written {
		t.Fatalf("%d unflushed, not %d", d.Unflushed(), written)
	}
	d.Crash(keep)
	count := 0
	got := taken(t, d)
	for i, b := range s.blocks {
		if bytes.Equal(got[s.at+i], b) {
			p = p.with(s.at+i, b)
			count++
		}
	}
	if count != kept(written, keep) {
		t.Fatalf("%d blocks of a step are kept, not %d", count, kept(written, keep))
	}
	looks(t, "behind a crash", d, p)
}

// P10.1: while the head and the blocks are laid down the last block is zeros; the end is never there unless all else is, whatever is kept.
func TestEndComesLast(t *testing.T) {
	for _, count := range []int{0, 1, 2, most} {
		// The same sequence as before: the old end would fit the new head.
		x, old := some(5, span(20, count), 1), some(5, span(20, count), 2)
		for fuse := range changes(x) + 1 {
			for _, keep := range patterns {
				d, p := disked(64)
				p.stored(old).lay(d)
				d.SetFuse(fuse)
				Write(d, x)
				d.Crash(keep)
				got := taken(t, d)
				switch {
				case bytes.Equal(got[endBlock], zeros()):
					readsNone(t, d, api.OK)
				case bytes.Equal(got[headBlock+count], p.stored(old)[headBlock+count]):
					reads(t, d, old)
				default:
					reads(t, d, x)
				}
			}
		}
	}
}

// P10.1: one transaction over another: shorter, longer, of the same length, and the same one twice.
func TestWriteOver(t *testing.T) {
	counts := []int{0, 1, 2, 20, 36, most}
	for _, first := range counts {
		for _, second := range counts {
			for _, seq := range []uint32{5, 6} {
				x, y := some(5, span(20, first), 1), some(seq, span(25, second), 2)
				d, p := disked(64)
				does(t, "first", Write(d, x), api.OK)
				for range 2 {
					does(t, "second", Write(d, y), api.OK)
					looks(t, "second", d, p.stored(x).stored(y))
					reads(t, d, y)
				}
				recovers(t, d, seq+1, api.OK)
				looks(t, "Recover", d, p.stored(x).stored(y).home(y))
			}
		}
	}
}

// P10.1: the blocks at their numbers, fixed ones and those of the journal too, unflushed, all others as before.
func TestHome(t *testing.T) {
	for _, blocks := range []int{64, 128, 768, 2000} {
		last := min(blocks, 768) - 1
		for _, numbers := range [][]int{nil, {0}, {last}, {1, 2, 0}, {63, 62}, span(headBlock, 37), {42, 41, 40}, {last, 50, 0, 60}, span(20, most)} {
			for _, pending := range []int{0, 2} {
				x := some(5, numbers, 1)
				d, p := disked(blocks)
				for i := range pending {
					d.Write(61+i, full(1000+i))
				}
				does(t, "Home", Home(d, x), api.OK)
				if d.Unflushed() != pending+len(numbers) || d.Down() {
					t.Fatal(d.Unflushed(), d.Down())
				}
				if pending == 0 {
					looks(t, "Home", d, p.home(x))
				}
				d.Crash(nil)
				looks(t, "Home, and a crash", d, p)
			}
		}
	}
}

// P10.1: a Home over another one: done twice it is the same, and of the second one the blocks that a crash keeps stay.
func TestHomeOver(t *testing.T) {
	x, y := some(5, span(45, 4), 1), some(6, span(45, 4), 2)
	for _, keep := range patterns {
		d, p := disked(64)
		for range 2 {
			does(t, "Home", Home(d, x), api.OK)
			looks(t, "Home", d, p.home(x))
		}
		d.Flush()
		does(t, "Home", Home(d, y), api.OK)
		looks(t, "Home", d, p.home(y))
		part(t, d, p.home(x), changed{45, y.Data}, 4, keep)
	}
}

// journaled returns a disk whose journal the picture's change made, and holds that Read asks, and does not change it.
func journaled(t *testing.T, blocks int, lay func(p picture) picture) *disk.Disk {
	t.Helper()
	d, p := disked(blocks)
	p = lay(p)
	p.lay(d)
	d.Write(50, full(999))
	d.SetFuse(0)
	Read(d)
	if d.Down() || d.Unflushed() != 1 {
		t.Fatal("Read changes the disk")
	}
	d.SetFuse(-1)
	looks(t, "Read", d, p.with(50, full(999)))
	return d
}

// P10.1: journals that have a transaction, laid down by hand, on disks of all sizes.
func TestRead(t *testing.T) {
	for _, blocks := range []int{64, 65, 768, 769, 2000} {
		last := min(blocks, 768) - 1
		for _, seq := range sequences {
			for _, numbers := range [][]int{nil, {0}, {last}, {headBlock, endBlock}, {last, 50, 0, 60}, span(last-most+1, most)} {
				x := some(seq, numbers, 1)
				d := journaled(t, blocks, func(p picture) picture { return p.stored(x) })
				for range 2 {
					reads(t, d, x)
				}
			}
		}
	}
}

// P10.1: no journal: zeros, and blocks of all kinds of bytes.
func TestReadNone(t *testing.T) {
	readsNone(t, disk.New(64), api.OK)
	d, _ := disked(64)
	readsNone(t, d, api.OK)
	// A transaction elsewhere on the disk is none of the journal's.
	x := some(5, []int{50}, 1)
	for _, at := range []int{0, 2, 4, 43} {
		readsNone(t, journaled(t, 128, func(p picture) picture {
			p = p.with(at, headOf(5, x.Numbers)).with(at+1, x.Data[0])
			return p.with(at+39, endOf(5))
		}), api.OK)
	}
}

// P10.1: a head without an end, an end without a head, and an end of another sequence or at another place.
func TestReadHalf(t *testing.T) {
	for _, count := range []int{0, 1, 2, 36, most} {
		x := some(5, span(20, count), 1)
		halves := []func(p picture) picture{
			func(p picture) picture { return p.headed(x) },
			func(p picture) picture { return p.headed(x).with(endBlock, zeros()) },
			func(p picture) picture { return p.with(endBlock, endOf(5)) },
			func(p picture) picture { return p.stored(x).with(headBlock, zeros()) },
			func(p picture) picture { return p.stored(x).with(headBlock, endOf(5)) },
			func(p picture) picture { return p.stored(x).with(endBlock, headOf(5, x.Numbers)) },
			func(p picture) picture { return p.headed(x).with(headBlock+count+1, endOf(5)).with(endBlock, zeros()) },
			func(p picture) picture { return p.headed(x).with(41, endOf(5)).with(endBlock, zeros()) },
			func(p picture) picture { return p.headed(x).with(43, endOf(5)).with(endBlock, zeros()) },
			func(p picture) picture { return p.stored(x).with(headBlock, full(3)).with(2, headOf(5, x.Numbers)) },
			func(p picture) picture { return p.stored(x).with(headBlock, full(3)).with(4, headOf(5, x.Numbers)) },
		}
		for _, other := range []uint32{4, 6, 0, 5 + 1<<8, 5 + 1<<16, 5 + 1<<24, 5 + 1<<31} {
			halves = append(halves, func(p picture) picture { return p.stored(x).with(endBlock, endOf(other)) })
			halves = append(halves, func(p picture) picture { return p.stored(x).with(headBlock, headOf(other, x.Numbers)) })
		}
		for _, half := range halves {
			readsNone(t, journaled(t, 64, half), api.OK)
		}
	}
}

// P10.1: another byte at each place of the head and of the end; in one of the blocks it is just another block.
func TestReadTurned(t *testing.T) {
	for _, count := range []int{0, 2, most} {
		x := some(0x04030201, span(20, count), 1)
		d, p := disked(64)
		p = p.stored(x)
		p.lay(d)
		for at := range 256 {
			for _, turn := range []byte{1, 2, 4, 8, 16, 32, 64, 128, 255} {
				for _, n := range []int{headBlock, endBlock} {
					b := slices.Clone(p[n])
					b[at] ^= turn
					d.Damage(n, b)
					readsNone(t, d, api.OK)
					d.Damage(n, p[n])
				}
			}
			if count > 0 {
				y := clone(x)
				y.Data[count-1][at] ^= 255
				d.Damage(headBlock+count, y.Data[count-1])
				reads(t, d, y)
				d.Damage(headBlock+count, x.Data[count-1])
			}
		}
		reads(t, d, x)
	}
}

// P10.1: any blocks may be between the transaction's and the end: zeros, others, heads and ends.
func TestReadBetween(t *testing.T) {
	for _, count := range []int{0, 1, 2, 20, 36, most} {
		x := some(5, span(20, count), 1)
		for _, b := range [][]byte{zeros(), full(77), headOf(5, x.Numbers), headOf(6, nil), endOf(5), endOf(6)} {
			d := journaled(t, 64, func(p picture) picture {
				p = p.stored(x)
				for n := headBlock + count + 1; n < endBlock; n++ {
					p = p.with(n, b)
				}
				return p
			})
			reads(t, d, x)
		}
	}
}

// P10.1: a transaction in the journal with a number that is the disk's number of blocks, or more, at each place; one less does.
func TestReadBeyondDisk(t *testing.T) {
	for _, blocks := range []int{64, 65, 100, 128, 256, 704, 767} {
		for _, count := range []int{1, 2, most} {
			for i := range count {
				numbers := span(1, count)
				numbers[i] = blocks - 1
				x := some(5, slices.Clone(numbers), 1)
				reads(t, journaled(t, blocks, func(p picture) picture { return p.stored(x) }), x)
				for _, n := range []int{blocks, min(blocks+1, 767), 767} {
					numbers[i] = n
					d := journaled(t, blocks, func(p picture) picture { return p.stored(some(5, numbers, 1)) })
					readsNone(t, d, api.OK)
				}
			}
		}
	}
}

// P10.1: a disk that is cut behind a Write has no block for it any more.
func TestReadCut(t *testing.T) {
	x := some(5, []int{50, 100, 60}, 1)
	d, p := disked(128)
	does(t, "Write", Write(d, x), api.OK)
	d.Cut(101)
	reads(t, d, x)
	d.Cut(100)
	readsNone(t, d, api.OK)
	recovers(t, d, 6, api.OK)
	looks(t, "Recover", d, p.stored(x)[:100])
}

// P10.1: a head with a number that no block has is no head, on a disk of any size.
func TestReadNoHead(t *testing.T) {
	b := full(1)
	for _, numbers := range [][]int{{768}, {50, 769}, {1999}, {65535}, {5, 5}, span(5, most+1)} {
		d := journaled(t, 2000, func(p picture) picture {
			return p.stored(some(5, []int{50, 51}, 1)).with(headBlock, headOf(5, numbers)).with(4, b)
		})
		readsNone(t, d, api.OK)
		before := taken(t, d)
		recovers(t, d, 1, api.OK)
		looks(t, "Recover", d, before)
	}
}

// P10.2: a journal without a head: 1, and nothing written; an end alone makes no difference.
func TestRecoverNoHead(t *testing.T) {
	none := []func(p picture) picture{
		func(p picture) picture { return p },
		func(p picture) picture { return p.with(headBlock, zeros()).with(endBlock, zeros()) },
		func(p picture) picture { return p.with(headBlock, zeros()).with(endBlock, endOf(7)) },
		func(p picture) picture { return p.with(headBlock, endOf(7)).with(endBlock, endOf(7)) },
		func(p picture) picture { return p.with(4, headOf(7, nil)).with(endBlock, endOf(7)) },
		func(p picture) picture { return p.with(headBlock, sealed("jrnL\x07")).with(endBlock, endOf(7)) },
	}
	for _, lay := range none {
		for _, blocks := range []int{64, 65, 768, 2000} {
			d, p := disked(blocks)
			p = lay(p)
			p.lay(d)
			for range 3 {
				recovers(t, d, 1, api.OK)
				looks(t, "Recover", d, p)
			}
		}
	}
	recovers(t, disk.New(64), 1, api.OK)
}

// P10.2: a head without an end, or with one of another sequence: one more than its sequence, and nothing written.
func TestRecoverNoEnd(t *testing.T) {
	for _, seq := range sequences {
		for _, count := range []int{0, 1, 2, most} {
			x := some(seq, span(20, count), 1)
			for _, end := range [][]byte{zeros(), full(endBlock), endOf(seq + 1), endOf(seq - 1), headOf(seq, x.Numbers)} {
				d, p := disked(64)
				p = p.headed(x).with(endBlock, end)
				p.lay(d)
				for range 3 {
					recovers(t, d, seq+1, api.OK)
					looks(t, "Recover", d, p)
				}
			}
		}
	}
}

// P10.2: a transaction: its blocks are written and flushed, once and again, and the journal stays as it is.
func TestRecover(t *testing.T) {
	for _, blocks := range []int{64, 65, 768, 2000} {
		last := min(blocks, 768) - 1
		for _, seq := range sequences {
			for _, numbers := range [][]int{nil, {0}, {last}, {0, 1, 2, 43, 63}, {last, 50, 0, 60}, append(span(43, 21), 0, 1, 2)} {
				x := some(seq, numbers, 1)
				d, p := disked(blocks)
				p = p.stored(x)
				p.lay(d)
				for range 3 {
					recovers(t, d, seq+1, api.OK)
					looks(t, "Recover", d, p.home(x))
					if d.Unflushed() != 0 {
						t.Fatal(d.Unflushed())
					}
					d.Crash(nil)
					looks(t, "Recover, and a crash", d, p.home(x))
					reads(t, d, x)
				}
			}
		}
	}
}

// P10.2: the sequence behind 2^32 - 1 is 0, with a transaction and without, and that behind 0 is 1.
func TestRecoverWraps(t *testing.T) {
	for _, c := range []struct{ seq, next uint32 }{{4294967295, 0}, {4294967294, 4294967295}, {0, 1}, {255, 256}, {65535, 65536}} {
		for _, whole := range []bool{false, true} {
			x := some(c.seq, []int{50}, 1)
			d, p := disked(64)
			p.headed(x).lay(d)
			if whole {
				does(t, "Write", Write(d, x), api.OK)
			}
			for range 2 {
				recovers(t, d, c.next, api.OK)
			}
		}
	}
}

// P10.2: with a number that is not that of a block of the disk nothing of the transaction is written, and its sequence counts.
func TestRecoverBeyondDisk(t *testing.T) {
	for _, blocks := range []int{64, 65, 100, 767} {
		for _, numbers := range [][]int{{blocks}, {767}, {50, blocks}, {blocks, 50}, {50, 0, blocks, 60}, append(span(20, most-1), blocks)} {
			d, p := disked(blocks)
			p = p.stored(some(8, numbers, 1))
			p.lay(d)
			for range 3 {
				recovers(t, d, 9, api.OK)
				looks(t, "Recover", d, p)
			}
		}
	}
}

// P10.2: a transaction that has blocks of the journal among its own: all is written as it stood there, and so is the sequence.
func TestRecoverOverJournal(t *testing.T) {
	other := headOf(70, []int{61})
	for _, numbers := range [][]int{
		{3}, {42}, {3, 42}, {42, 3}, {60, 3, 50}, {5, 4}, {4, 5}, {6, 4, 5}, {41, 40}, {50, 42, 60}, {40, 41, 42, 3, 4}, span(3, most), span(6, most),
	} {
		for _, head := range []bool{false, true} {
			x := some(8, numbers, 1)
			if i := slices.Index(numbers, headBlock); i >= 0 && head {
				x.Data[i] = other
			}
			d, p := disked(64)
			p = p.stored(x)
			p.lay(d)
			recovers(t, d, 9, api.OK)
			looks(t, "Recover", d, p.home(x))
			d.Crash(nil)
			looks(t, "Recover, and a crash", d, p.home(x))
		}
	}
}

// P10.2: what is unflushed ahead of a Recover is flushed by it, and the transaction comes over it.
func TestRecoverFlushes(t *testing.T) {
	x := some(8, []int{50, 0, 60}, 1)
	for _, c := range []struct {
		lay  func(p picture) picture
		next uint32
		home txn.Txn
	}{
		{func(p picture) picture { return p.stored(x) }, 9, x},
		{func(p picture) picture { return p.headed(x).with(endBlock, zeros()) }, 9, txn.Txn{}},
		{func(p picture) picture { return p }, 1, txn.Txn{}},
	} {
		d, p := disked(64)
		p = c.lay(p)
		p.lay(d)
		for i, n := range []int{50, 61, 0, 50} {
			d.Write(n, full(1000+i))
			p = p.with(n, full(1000+i))
		}
		recovers(t, d, c.next, api.OK)
		if d.Unflushed() != 0 {
			t.Fatal(d.Unflushed())
		}
		d.Crash(nil)
		looks(t, "Recover", d, p.home(c.home))
	}
}

// P10.2: the journal is taken as it is seen, unflushed too: a head and an end that are not flushed count, and so do zeros over an end.
func TestRecoverUnflushedJournal(t *testing.T) {
	x := some(8, []int{50, 0, 60}, 1)
	d, p := disked(64)
	d.Write(headBlock, headOf(8, x.Numbers))
	for i, b := range x.Data {
		d.Write(4+i, b)
	}
	d.Write(endBlock, endOf(8))
	reads(t, d, x)
	recovers(t, d, 9, api.OK)
	looks(t, "Recover", d, p.stored(x).home(x))
	d.Write(endBlock, zeros())
	d.Write(50, full(500))
	readsNone(t, d, api.OK)
	recovers(t, d, 9, api.OK)
	looks(t, "Recover", d, p.stored(x).home(x).with(endBlock, zeros()).with(50, full(500)))
}

// P10.1, P10.2: all calls without power, right as they are otherwise: nothing is done, and no fuse gives it back.
func TestDown(t *testing.T) {
	x, y := some(5, []int{50, 0, 60}, 1), some(6, span(20, most), 2)
	for _, blocks := range []int{64, 65, 768, 2000} {
		d, p := disked(blocks)
		p = p.stored(x)
		p.lay(d)
		d.Write(61, full(1000))
		d.SetFuse(0)
		does(t, "Flush", d.Flush(), api.ErrIO)
		for _, fuse := range []int{-1, 0, 100} {
			d.SetFuse(fuse)
			does(t, "Write", Write(d, y), api.ErrIO)
			does(t, "Write of none", Write(d, txn.Txn{}), api.ErrIO)
			does(t, "Home", Home(d, y), api.ErrIO)
			readsNone(t, d, api.ErrIO)
			recovers(t, d, 0, api.ErrIO)
			if !d.Down() || d.Unflushed() != 1 {
				t.Fatal(d.Down(), d.Unflushed())
			}
		}
		d.Crash([]bool{true})
		looks(t, "a crash", d, p.with(61, full(1000)))
		recovers(t, d, 6, api.OK)
		looks(t, "Recover", d, p.with(61, full(1000)).home(x))
	}
}

// P10.1: the power failing at each change of a Home: what was done remains, unflushed, as many blocks as there were changes.
func TestHomeFails(t *testing.T) {
	for _, count := range []int{0, 1, 2, most} {
		x := some(5, span(20, count), 1)
		for fuse := range count + 2 {
			for _, keep := range patterns {
				d, p := disked(64)
				d.SetFuse(fuse)
				e := Home(d, x)
				if fuse >= count {
					does(t, "Home", e, api.OK)
				} else {
					does(t, "Home", e, api.ErrIO)
				}
				if d.Down() != (e != api.OK) {
					t.Fatal(fuse, d.Down())
				}
				part(t, d, p, changed{20, x.Data}, min(fuse, count), keep)
			}
		}
	}
}

// P10.2: the power failing at each change of a Recover: 0 and ErrIO, what was done remains, and the next one completes it.
func TestRecoverFails(t *testing.T) {
	for _, count := range []int{0, 1, 2, 21} {
		x := some(8, span(43, count), 1)
		for fuse := range count + 3 {
			for _, keep := range patterns {
				d, p := disked(64)
				p = p.stored(x)
				p.lay(d)
				d.SetFuse(fuse)
				if fuse > count {
					recovers(t, d, 9, api.OK)
					part(t, d, p.home(x), changed{}, 0, keep)
				} else {
					recovers(t, d, 0, api.ErrIO)
					part(t, d, p, changed{43, x.Data}, fuse, keep)
				}
				recovers(t, d, 9, api.OK)
				looks(t, "Recover", d, p.home(x))
			}
		}
	}
}

// P10.2: a Recover that has nothing to write flushes, and so fails with the power.
func TestRecoverFlushFails(t *testing.T) {
	for _, head := range []bool{false, true} {
		d, p := disked(64)
		if head {
			p = p.headed(some(8, []int{50}, 1))
		}
		p.lay(d)
		d.Write(61, full(1000))
		d.SetFuse(0)
		recovers(t, d, 0, api.ErrIO)
		if !d.Down() || d.Unflushed() != 1 {
			t.Fatal(d.Down(), d.Unflushed())
		}
		d.Crash(nil)
		looks(t, "Recover", d, p)
	}
}

// again lets Recover crash at each of its changes in turn, and then end; it returns what it returns then.
func again(t *testing.T, d *disk.Disk, count int, keep []bool) uint32 {
	t.Helper()
	for fuse := range count {
		d.SetFuse(fuse)
		Recover(d)
		d.Crash(keep)
	}
	seq, e := Recover(d)
	does(t, "Recover", e, api.OK)
	return seq
}

// P10.3: a crash behind a Write alone, and behind Write and Home: Recover completes all of it.
func TestCrashAfterWrite(t *testing.T) {
	for _, numbers := range [][]int{nil, {0}, {50, 0, 60}, append(span(43, 21), 0, 1, 2)} {
		for _, home := range []bool{false, true} {
			for _, keep := range patterns {
				x := some(8, numbers, 1)
				d, p := disked(128)
				does(t, "Write", Write(d, x), api.OK)
				if home {
					does(t, "Home", Home(d, x), api.OK)
				}
				d.Crash(keep)
				if seq := again(t, d, len(numbers)+2, keep); seq != 9 {
					t.Fatal(seq)
				}
				looks(t, "Recover", d, p.stored(x).home(x))
			}
		}
	}
}

// shapes holds the numbers of a transaction and of the next one: apart, overlapping, the same, shorter and longer.
var shapes = [][2][]int{
	{{50, 0, 60}, {50, 0, 60}}, {{50, 0, 60}, {60, 51}}, {{50, 51}, {61, 62, 63}}, {{50}, {}}, {{}, {50}}, {{}, {}},
	{{43, 44, 45, 46, 47, 48, 49, 50}, {50}}, {{50}, {43, 44, 45, 46, 47, 48, 49, 50}}, {{1, 2, 0}, {0, 63, 2}},
}

// P10.3: a Write behind another one that is home, the power failing at each change of it and of its Home: all or nothing of it, and all of the one before it.
func TestCrashWithin(t *testing.T) {
	for _, shape := range shapes {
		x, y := some(5, shape[0], 1), some(6, shape[1], 2)
		for fuse := range changes(y) + len(shape[1]) + 2 {
			for _, keep := range patterns {
				crashWithin(t, x, y, fuse, keep)
			}
		}
	}
}

// crashWithin plays one case of TestCrashWithin.
func crashWithin(t *testing.T, x, y txn.Txn, fuse int, keep []bool) {
	t.Helper()
	d, p := disked(64)
	does(t, "Write", Write(d, x), api.OK)
	does(t, "Home", Home(d, x), api.OK)
	d.SetFuse(fuse)
	e := Write(d, y)
	if e == api.OK {
		Home(d, y)
	}
	d.Crash(keep)
	seq := again(t, d, 10, keep)
	open, before := taken(t, d), p.home(x)
	// The journal has the head of one or the other, and the sequence is the next one behind it.
	switch {
	case bytes.Equal(open[headBlock], headOf(5, x.Numbers)) && seq == 6 && e != api.OK:
	case bytes.Equal(open[headBlock], headOf(6, y.Numbers)) && seq == 7:
	default:
		t.Fatalf("fuse %d, keep %v: the next sequence is %d", fuse, keep, seq)
	}
	for n := headBlock; n <= endBlock; n++ {
		open[n], before[n] = nil, nil
	}
	after := before.home(y)
	if all := slices.EqualFunc(open, after, bytes.Equal); !all && (e == api.OK || !slices.EqualFunc(open, before, bytes.Equal)) {
		t.Fatalf("fuse %d, keep %v, %v: neither all of it nor nothing of it", fuse, keep, e)
	}
}

// P10.3: the very first Write of a disk, the power failing at each change: all or nothing of it.
func TestCrashFirst(t *testing.T) {
	for _, count := range []int{0, 1, 3, 21} {
		x := some(1, span(43, count), 1)
		for fuse := range changes(x) + 1 {
			for _, keep := range patterns {
				d := disk.New(64)
				d.SetFuse(fuse)
				e := Write(d, x)
				d.Crash(keep)
				seq := again(t, d, count+2, keep)
				got := taken(t, d)
				all, nothing := true, true
				for i, n := range x.Numbers {
					all = all && bytes.Equal(got[n], x.Data[i])
					nothing = nothing && bytes.Equal(got[n], zeros())
				}
				if !all && (e == api.OK || !nothing) || seq != 1 && seq != 2 || seq == 1 && e == api.OK {
					t.Fatalf("fuse %d, keep %v, %v: all %v, nothing %v, next %d", fuse, keep, e, all, nothing, seq)
				}
			}
		}
	}
}

// P10.3: many transactions of the same blocks one behind the other, with a crash at each change of all of them: the blocks are those of one of them, of the last one that returned OK or the one that did not.
func TestCrashChain(t *testing.T) {
	numbers := []int{50, 0, 60}
	for fuse := range 5 * 13 {
		for _, keep := range patterns {
			d := disk.New(64)
			d.SetFuse(fuse)
			done := 0
			for k := 1; k <= 5; k++ {
				x := some(uint32(k), numbers, k)
				if Write(d, x) != api.OK {
					break
				}
				done = k
				Home(d, x)
			}
			d.Crash(keep)
			again(t, d, 5, keep)
			one := false
			for k := done; k <= done+1; k++ {
				x, count := some(uint32(k), numbers, k), 0
				for i, n := range numbers {
					b, _ := d.Read(n)
					if bytes.Equal(b, x.Data[i]) || k == 0 && bytes.Equal(b, zeros()) {
						count++
					}
				}
				one = one || count == len(numbers)
			}
			if !one {
				t.Fatalf("fuse %d, keep %v: not the blocks of transaction %d or the next one", fuse, keep, done)
			}
		}
	}
}

// P10.3: what a crash leaves is written on: the next transaction is written behind Recover, and is complete behind another crash.
func TestCrashAndOn(t *testing.T) {
	for fuse := range 12 {
		for _, keep := range patterns {
			d := disk.New(64)
			does(t, "Write", Write(d, some(1, []int{50, 0, 60}, 1)), api.OK)
			d.SetFuse(fuse)
			Write(d, some(2, []int{50, 51}, 2))
			d.Crash(keep)
			seq := again(t, d, 5, keep)
			x := some(seq, []int{51, 60}, 3)
			does(t, "Write", Write(d, x), api.OK)
			does(t, "Home", Home(d, x), api.OK)
			d.Crash(keep)
			if next := again(t, d, 5, keep); next != seq+1 {
				t.Fatal(next, seq)
			}
			for i, n := range x.Numbers {
				if b, e := d.Read(n); e != api.OK || !bytes.Equal(b, x.Data[i]) {
					t.Fatalf("fuse %d, keep %v: block %d is lost", fuse, keep, n)
				}
			}
		}
	}
}

// P10.1: the chapter's example.
func TestExample(t *testing.T) {
	x := some(1, []int{50, 0, 60}, 1)
	d := disk.New(64)
	does(t, "Write", Write(d, x), api.OK)
	for i := range x.Numbers {
		if b, _ := d.Read(x.Numbers[i]); !bytes.Equal(b, zeros()) {
			t.Fatal("Write writes at home")
		}
	}
	d.Crash(nil)
	recovers(t, d, 2, api.OK)
	for i, n := range x.Numbers {
		if b, e := d.Read(n); e != api.OK || !bytes.Equal(b, x.Data[i]) {
			t.Fatalf("block %d: %x, %v", n, b, e)
		}
	}
}

// R3: Write and Home leave a transaction as it is, with what lies behind its lists and its blocks, and do not keep it.
func TestArgumentsStay(t *testing.T) {
	for _, put := range []func(d *disk.Disk, x txn.Txn) api.Errno{Write, Home} {
		for _, numbers := range [][]int{nil, {50}, {50, 0, 60}, append(span(43, 21), 0, 1, 2)} {
			whole := some(5, append(slices.Clone(numbers), 700, 701), 1)
			for i, b := range whole.Data {
				whole.Data[i] = append(b, "spare"...)[:256]
			}
			count := len(numbers)
			was, x := clone(whole), txn.Txn{Seq: 5, Numbers: whole.Numbers[:count], Data: whole.Data[:count]}
			d, _ := disked(64)
			does(t, "put", put(d, x), api.OK)
			if !sameTxn(whole, was) {
				t.Fatal("an argument is changed")
			}
			for _, b := range whole.Data {
				if string(b[:261][256:]) != "spare" {
					t.Fatal("what lies behind a block is changed")
				}
			}
			before := taken(t, d)
			for _, b := range whole.Data {
				clear(b[:261])
			}
			clear(whole.Numbers)
			looks(t, "a block changed behind the call", d, before)
			d.Crash([]bool{true})
			looks(t, "a block changed behind the call, and a crash", d, before)
			clear(whole.Data)
		}
	}
}

// R3: what Read returns is new memory, each block for itself, and stays as it is when the disk changes.
func TestResultsAreNew(t *testing.T) {
	for _, numbers := range [][]int{nil, {50}, {50, 0, 60}, append(span(43, 21), 0, 1, 2)} {
		x := some(5, numbers, 1)
		d, _ := disked(64)
		does(t, "Write", Write(d, x), api.OK)
		before := taken(t, d)
		first, _, _ := Read(d)
		second, _, _ := Read(d)
		for i := range first.Data {
			others := clone(first)
			b := first.Data[i]
			clear(b[:cap(b)])
			others.Data[i] = zeros()
			if !sameTxn(first, others) {
				t.Fatal("two blocks share memory")
			}
		}
		clear(first.Numbers[:cap(first.Numbers)])
		clear(first.Data[:cap(first.Data)])
		looks(t, "a result is changed", d, before)
		if !sameTxn(second, x) {
			t.Fatal("two results share memory")
		}
		reads(t, d, x)
		does(t, "Write", Write(d, some(6, span(20, most), 2)), api.OK)
		d.Cut(0)
		if !sameTxn(second, x) {
			t.Fatal("a result changes with the disk")
		}
	}
}

// R2: the same calls answer the same on another disk, and disks have nothing in common.
func TestDisksApart(t *testing.T) {
	x, y := some(5, []int{50, 0, 60}, 1), some(1<<32-1, span(20, most), 2)
	for range 2 {
		a, p := disked(64)
		b, q := disked(64)
		does(t, "Write", Write(a, x), api.OK)
		does(t, "Write", Write(b, y), api.OK)
		reads(t, a, x)
		reads(t, b, y)
		a.SetFuse(0)
		recovers(t, a, 0, api.ErrIO)
		looks(t, "the other disk", b, q.stored(y))
		a.Crash(nil)
		recovers(t, a, 6, api.OK)
		looks(t, "Recover", a, p.stored(x).home(x))
		looks(t, "the other disk", b, q.stored(y))
	}
}

// R4: a transaction of no blocks may have nil or empty lists.
func TestEmptyLists(t *testing.T) {
	for _, x := range []txn.Txn{{Seq: 5}, {Seq: 5, Numbers: []int{}}, {Seq: 5, Data: [][]byte{}}, {Seq: 5, Numbers: []int{}, Data: [][]byte{}}} {
		d, p := disked(64)
		does(t, "Home", Home(d, x), api.OK)
		looks(t, "Home", d, p)
		does(t, "Write", Write(d, x), api.OK)
		looks(t, "Write", d, p.with(headBlock, headOf(5, nil)).with(endBlock, endOf(5)))
		reads(t, d, txn.Txn{Seq: 5})
		recovers(t, d, 6, api.OK)
	}
}
