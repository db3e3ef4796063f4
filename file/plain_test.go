package file

import (
	"bytes"
	"maps"
	"math"
	"slices"
	"testing"

	"ashlar/api"
	"ashlar/disk"
	"ashlar/geom"
	"ashlar/group"
	"ashlar/inode"
	"ashlar/store"
	"ashlar/super"
	"ashlar/table"
)

// plain is a file system as the chapters tell it: a superblock, an owner for each block of the disk, the inodes, and the bytes of the open blocks.
type plain struct {
	s      super.Super
	owners []api.Owner
	nodes  [48]inode.Inode
	bytes  map[int][]byte // never changed in place
}

var (
	unowned    = api.Owner{}
	fixedOwner = api.Owner{Ino: 0xffff}
)

// fixedAt says the layout.
func fixedAt(n int) bool {
	return n <= 42 || n == 63 || n >= 64 && n%64 <= 1
}

// fresh returns a file system in which the inodes 1, 2, 3, 8 and 47 are in use and empty. Its free blocks are full of what was there before.
func fresh(blocks int) plain {
	p := plain{s: super.Super{Blocks: blocks, Table: [6]int{43, 44, 45, 46, 47, 48}}, owners: make([]api.Owner, blocks), bytes: map[int][]byte{}}
	for n := range p.owners {
		if fixedAt(n) {
			p.owners[n] = fixedOwner
		} else {
			p.bytes[n] = filled(n)
		}
	}
	for k, n := range p.s.Table {
		p.owners[n] = api.Owner{Ino: api.Table, At: uint16(k)}
	}
	p.nodes[1] = inode.Inode{Kind: api.Dir, Links: 1}
	p.nodes[2] = inode.Inode{Kind: api.File, Links: 2}
	p.nodes[3] = inode.Inode{Kind: api.Link, Links: 1}
	p.nodes[8] = inode.Inode{Kind: api.File}
	p.nodes[47] = inode.Inode{Kind: api.File, Links: 200}
	return p
}

// inUse holds the numbers of the inodes that fresh gives a kind.
var inUse = []int{1, 2, 3, 8, 47}

// files holds those that may have any size.
var files = []int{1, 2, 8, 47}

// place makes n the location of block i of that inode, and its owner; the map, if one is needed, is there already.
func (p *plain) place(ino, i, n int) {
	p.owners[n] = api.Owner{Ino: uint16(ino), At: uint16(i)}
	p.bytes[n] = text(256*i, 256)
	p.locate(ino, i, n)
}

// placeMap makes n the map of that inode.
func (p *plain) placeMap(ino, n int) {
	p.owners[n] = api.Owner{Ino: uint16(ino), At: 0xffff}
	p.nodes[ino].Map = n
	p.bytes[n] = make([]byte, 256)
}

// sized makes n the size of the inode; what follows it is zero.
func (p *plain) sized(ino, n int) {
	p.nodes[ino].Size = n
	if at := p.all(ino)[n/256%138]; at > 0 && n < 35328 {
		p.bytes[at] = append(slices.Clone(p.bytes[at][:n%256]), make([]byte, 256-n%256)...)
	}
}

// occupy gives all free blocks but those of list to inode 47, as its block 0.
func (p *plain) occupy(but ...int) {
	for n, o := range p.owners {
		if o == unowned && !slices.Contains(but, n) {
			p.owners[n] = api.Owner{Ino: 47}
		}
	}
}

// with returns a fresh file system in which inode 2 has that size, its blocks at the locations of list, and its map at the block at, if that is not 0.
func with(blocks, size, at int, list ...int) plain {
	p := fresh(blocks)
	if at > 0 {
		p.placeMap(2, at)
	}
	for i, n := range list {
		if n > 0 {
			p.place(2, i, n)
		}
	}
	p.sized(2, size)
	return p
}

// holes returns n of them, and the locations of list behind them.
func holes(n int, list ...int) []int { return append(make([]int, n), list...) }

// long returns the locations of a file whose 138 blocks are all there, in the groups from the second one on.
func long() []int {
	var list []int
	for n := 64; len(list) < 138; n++ {
		if !fixedAt(n) {
			list = append(list, n)
		}
	}
	return list
}

// layouts returns file systems in which inode 2 has all kinds of sizes and blocks.
func layouts() []plain {
	all := []plain{
		fresh(256), with(256, 1, 0, 70), with(256, 1, 0), with(256, 255, 0, 70), with(256, 256, 0, 70), with(256, 257, 0, 70, 71), with(256, 257, 0, 70), with(256, 300, 0, 0, 71), with(256, 512, 0, 71, 70),
		with(256, 1400, 0, 70, 0, 72, 0, 71, 0), with(256, 2560, 0, long()[:10]...), with(256, 2561, 60, long()[:11]...), with(256, 2561, 0, long()[:10]...), with(256, 2559, 0, holes(9, 70)...),
		with(256, 3000, 60, holes(9, 70, 71, 72)...), with(256, 3000, 60, holes(11, 70)...), with(256, 3000, 0, 70), with(256, 35328, 0), with(256, 35328, 60, holes(137, 70)...), with(256, 35328, 60, long()...),
		with(256, 35327, 60, long()...), with(256, 35072, 60, long()[:137]...), with(256, 35073, 60, holes(136, 80, 81)...), with(256, 9000, 0, long()[:10]...),
	}
	turns := holes(138)
	for i := 0; i < 138; i += 1 + i%3 {
		turns[i] = long()[137-i]
	}
	return append(all, with(256, 35200, 60, turns...), with(256, 2600, 60, turns[:11]...))
}

// scattered returns a file system whose inodes have blocks anywhere, about that many in all, and sizes beyond them.
func scattered(blocks, seed, many int) plain {
	l, p := lots(seed), fresh(blocks)
	var open []int
	for n, o := range p.owners {
		if o == unowned {
			open = append(open, n)
		}
	}
	draw := func() int {
		k := l.below(len(open))
		n := open[k]
		open = slices.Delete(open, k, k+1)
		return n
	}
	ends := map[int]int{}
	for k := range min(many, len(open)/2) {
		ino, i := files[l.below(4)], l.below(12)
		if k%2 == 1 {
			i = l.below(138)
		}
		if i >= 10 && p.nodes[ino].Map == 0 {
			p.placeMap(ino, draw())
		}
		if p.all(ino)[i] == 0 {
			p.place(ino, i, draw())
			ends[ino] = max(ends[ino], i)
		}
	}
	for _, ino := range files {
		p.sized(ino, 256*ends[ino]+1+l.below(256))
	}
	return p
}

// clone returns the same file system, of which changes are apart.
func (p plain) clone() plain {
	return plain{s: p.s, owners: slices.Clone(p.owners), nodes: p.nodes, bytes: maps.Clone(p.bytes)}
}

// equal reports whether both are the same file system.
func (p plain) equal(q plain) bool {
	return p.s == q.s && slices.Equal(p.owners, q.owners) && p.nodes == q.nodes && maps.EqualFunc(p.bytes, q.bytes, bytes.Equal)
}

// is returns the error of asking for that inode.
func (p *plain) is(ino int) api.Errno {
	if ino < 1 || ino > 47 || p.nodes[ino].Kind == 0 {
		return api.ErrArg
	}
	return api.OK
}

// all returns the locations of all of the inode's blocks.
func (p *plain) all(ino int) []int {
	list := append(p.nodes[ino].Direct[:len(p.nodes[ino].Direct):10], make([]int, 128)...)
	if at := p.nodes[ino].Map; at > 0 {
		for k := range 128 {
			list[10+k] = int(p.bytes[at][2*k]) + 256*int(p.bytes[at][2*k+1])
		}
	}
	return list
}

// locate makes n the location of block i.
func (p *plain) locate(ino, i, n int) {
	if i < 10 {
		p.nodes[ino].Direct[i] = n
		return
	}
	at := p.nodes[ino].Map
	b := slices.Clone(p.bytes[at])
	b[2*i-20], b[2*i-19] = byte(n), byte(n>>8)
	p.bytes[at] = b
}

// count returns how many open blocks below blocks are used, and how many there are.
func (p *plain) count(blocks int) (int, int) {
	used, all := 0, 0
	for n, o := range p.owners[:blocks] {
		if !fixedAt(n) {
			all++
			if o != unowned {
				used++
			}
		}
	}
	return used, all
}

// left returns how many blocks can be taken yet.
func (p *plain) left() int {
	used, _ := p.count(p.s.Blocks)
	_, all := p.count(p.limit())
	return all - used
}

// limit says below which number blocks are taken.
func (p *plain) limit() int {
	if p.s.State == 2 {
		return p.s.Target
	}
	return p.s.Blocks
}

// take gives a free block to the inode, with zero bytes.
func (p *plain) take(goal, ino, at int) (int, api.Errno) {
	if p.left() < 1 {
		return 0, api.ErrNoSpace
	}
	limit := p.limit()
	if goal < 0 || goal >= limit {
		goal = 0
	}
	for k := range 2 * limit {
		if n := k % limit; (k >= limit || n >= goal) && p.owners[n] == unowned {
			p.owners[n] = api.Owner{Ino: uint16(ino), At: uint16(at)}
			p.bytes[n] = make([]byte, 256)
			return n, api.OK
		}
	}
	return 0, api.ErrNoSpace
}

// mapBlock returns the location of block i; a hole gets one.
func (p *plain) mapBlock(ino, i int) (int, api.Errno) {
	if n := p.all(ino)[i]; n > 0 {
		return n, api.OK
	}
	if i >= 10 && p.nodes[ino].Map == 0 {
		at, e := p.take(0, ino, 0xffff)
		if e != api.OK {
			return 0, e
		}
		p.nodes[ino].Map = at
	}
	goal := 0
	if i > 0 && p.all(ino)[i-1] > 0 {
		goal = p.all(ino)[i-1] + 1
	}
	n, e := p.take(goal, ino, i)
	if e == api.OK {
		p.locate(ino, i, n)
	}
	return n, e
}

// free makes block n free.
func (p *plain) free(n int) api.Errno {
	if n >= len(p.owners) || fixedAt(n) || p.owners[n] == unowned {
		return api.ErrArg
	}
	p.owners[n] = unowned
	return api.OK
}

// cut makes the blocks from that one on holes.
func (p *plain) cut(ino, from int) api.Errno {
	for i, n := range p.all(ino) {
		if i < from || n == 0 {
			continue
		}
		if e := p.free(n); e != api.OK {
			return e
		}
		p.locate(ino, i, 0)
	}
	if p.nodes[ino].Map == 0 || slices.Max(p.all(ino)[10:]) > 0 {
		return api.OK
	}
	if e := p.free(p.nodes[ino].Map); e != api.OK {
		return e
	}
	p.nodes[ino].Map = 0
	return api.OK
}

func (p *plain) read(ino, at, n int) ([]byte, api.Errno) {
	if e := p.is(ino); e != api.OK || at < 0 || n < 0 {
		return nil, api.ErrArg
	}
	var b []byte
	list := p.all(ino)
	for k := at; k < p.nodes[ino].Size && k-at < n; k++ {
		c := byte(0)
		if m := list[k/256]; m > 0 {
			c = p.bytes[m][k%256]
		}
		b = append(b, c)
	}
	return b, api.OK
}

// write stores byte by byte.
func (p *plain) write(ino, at int, b []byte) (int, api.Errno) {
	if e := p.is(ino); e != api.OK || at < 0 {
		return 0, api.ErrArg
	}
	if len(b) > 1024 {
		b = b[:1024]
	}
	if at > 35328-len(b) {
		return 0, api.ErrFBig
	}
	last, n := -1, 0
	for k, c := range b {
		if i := (at + k) / 256; i != last {
			m, e := p.mapBlock(ino, i)
			if e != api.OK {
				return 0, e
			}
			last, n, p.bytes[m] = i, m, slices.Clone(p.bytes[m])
		}
		p.bytes[n][(at+k)%256] = c
	}
	if len(b) > 0 && at+len(b) > p.nodes[ino].Size {
		return len(b), p.size(ino, at+len(b))
	}
	return len(b), api.OK
}

// size makes n the size of the inode, as long as that is one for its kind.
func (p *plain) size(ino, n int) api.Errno {
	if p.nodes[ino].Kind == api.Link && n > 200 {
		return api.ErrArg
	}
	p.nodes[ino].Size = n
	return api.OK
}

func (p *plain) resize(ino, n int) api.Errno {
	if e := p.is(ino); e != api.OK || n < 0 {
		return api.ErrArg
	}
	if n > 35328 {
		return api.ErrFBig
	}
	from := n / 256
	if n%256 > 0 {
		from++
	}
	if e := p.cut(ino, from); e != api.OK {
		return e
	}
	if from > n/256 {
		if m := p.all(ino)[n/256]; m > 0 {
			p.bytes[m] = append(slices.Clone(p.bytes[m][:n%256]), make([]byte, 256-n%256)...)
		}
	}
	return p.size(ino, n)
}

// action is one call, by its name; Resize has its size in n.
type action struct {
	call       string
	ino, at, n int
	b          []byte
}

func reading(ino, at, n int) action        { return action{"Read", ino, at, n, nil} }
func writing(ino, at int, b []byte) action { return action{"Write", ino, at, 0, b} }
func resizing(ino, n int) action           { return action{"Resize", ino, 0, n, nil} }

// answer is what a call returns.
type answer struct {
	n int
	b []byte
	e api.Errno
}

func (x answer) equal(y answer) bool { return x.n == y.n && x.e == y.e && bytes.Equal(x.b, y.b) }

// asked makes the call.
func asked(f *table.FS, a action) answer {
	x := answer{}
	switch a.call {
	case "Read":
		x.b, x.e = Read(f, a.ino, a.at, a.n)
	case "Write":
		x.n, x.e = Write(f, a.ino, a.at, a.b)
	case "Resize":
		x.e = Resize(f, a.ino, a.n)
	}
	return x
}

// follow does plainly what the call does, and says what it returns.
func (p *plain) follow(a action) answer {
	x := answer{}
	switch a.call {
	case "Read":
		x.b, x.e = p.read(a.ino, a.at, a.n)
	case "Write":
		x.n, x.e = p.write(a.ino, a.at, a.b)
	case "Resize":
		x.e = p.resize(a.ino, a.n)
	}
	if x.e != api.OK {
		return answer{e: x.e}
	}
	return x
}

// answers asks for an answer.
func answers(t *testing.T, f *table.FS, a action, want answer) {
	t.Helper()
	if got := asked(f, a); !got.equal(want) {
		t.Fatalf("%+v: %+v, not %+v", a, got, want)
	}
}

// refused asks for an error, with nothing beside it.
func refused(t *testing.T, f *table.FS, a action, want api.Errno) {
	t.Helper()
	got := asked(f, a)
	if got.e != want || got.n != 0 || len(got.b) > 0 {
		t.Fatalf("%+v: %+v, not %v", a, got, want)
	}
}

// does asks for an error.
func does(t *testing.T, what string, e, want api.Errno) {
	t.Helper()
	if e != want {
		t.Fatalf("%s: %v, not %v", what, e, want)
	}
}

// twin is a file system on a store, and what the chapters say of it.
type twin struct {
	d *disk.Disk
	f *table.FS
	p plain
}

// twinOf lays a file system on a disk, and opens its store; a call is open.
func twinOf(t *testing.T, p plain) *twin {
	t.Helper()
	d := disk.New(len(p.owners))
	for n, b := range p.blocks() {
		d.Damage(n, b)
	}
	return (&twin{d: d, p: p.clone()}).open(t)
}

// open opens the store, and a call.
func (w *twin) open(t *testing.T) *twin {
	t.Helper()
	s, e := store.Open(w.d)
	does(t, "Open", e, api.OK)
	does(t, "Begin", s.Begin(), api.OK)
	w.f = table.New(s)
	return w
}

// do makes the call, and holds its answer.
func (w *twin) do(t *testing.T, a action) {
	t.Helper()
	answers(t, w.f, a, w.p.follow(a))
}

// end ends the call.
func (w *twin) end(t *testing.T, keep bool) {
	t.Helper()
	does(t, "End", w.f.S.End(keep), api.OK)
}

// next ends the call, and opens another one.
func (w *twin) next(t *testing.T, keep bool) {
	t.Helper()
	w.end(t, keep)
	does(t, "Begin", w.f.S.Begin(), api.OK)
}

// undo ends the call, of which nothing remains, and opens another one; p is what was there ahead of it.
func (w *twin) undo(t *testing.T, p plain) {
	t.Helper()
	w.next(t, false)
	w.p = p.clone()
}

// spoil makes block n b, within the call.
func (w *twin) spoil(t *testing.T, n int, b []byte) {
	t.Helper()
	does(t, "Put", w.f.S.Put(n, b), api.OK)
}

// lay makes the inodes and the map of inode 2 those of the plain file system, within the call.
func (w *twin) lay(t *testing.T) {
	t.Helper()
	w.spoil(t, 43, w.p.blocks()[43])
	if at := w.p.nodes[2].Map; at > 0 && at < len(w.p.owners) {
		w.spoil(t, at, w.p.bytes[at])
	}
}

// odd returns the first block that is not as the chapters say, or -1. What a free block has, nothing says.
func (w *twin) odd() int {
	for n, want := range w.p.blocks() {
		if journaled(n) || w.p.owners[n] == unowned {
			continue
		}
		if b, e := w.f.S.Get(n); e != api.OK || !bytes.Equal(b, want) {
			return n
		}
	}
	return -1
}

// holds holds all blocks but the free ones.
func (w *twin) holds(t *testing.T) {
	t.Helper()
	if n := w.odd(); n >= 0 {
		b, e := w.f.S.Get(n)
		t.Fatalf("block %d is %x, %v, not %x", n, b, e, w.p.blocks()[n])
	}
}

// picture returns the bytes of all blocks, the free ones as well.
func (w *twin) picture() [][]byte {
	all := make([][]byte, len(w.p.owners))
	for n := range all {
		all[n], _ = w.f.S.Get(n)
	}
	return all
}

// changed returns the blocks that are others than in that picture, but the free ones.
func (w *twin) changed(was [][]byte) []int {
	list := []int{}
	for n, b := range w.picture() {
		if !bytes.Equal(b, was[n]) && w.p.owners[n] != unowned {
			list = append(list, n)
		}
	}
	return list
}

// unchanged holds that no block is another than in that picture.
func (w *twin) unchanged(t *testing.T, was [][]byte) {
	t.Helper()
	for n, b := range w.picture() {
		if !bytes.Equal(b, was[n]) {
			t.Fatalf("block %d is changed", n)
		}
	}
}

func journaled(n int) bool { return n >= 3 && n <= 42 }

// filled returns bytes that were left in a block by something else; they are no map's.
func filled(n int) []byte {
	b := make([]byte, 256)
	for i := range b {
		b[i] = byte(n*31 + i*7 + n/8 + 201)
	}
	return b
}

// text returns n bytes, none of them zero, of which those from at on tell their places.
func text(at, n int) []byte {
	b := make([]byte, n)
	for k := range b {
		b[k] = byte(1 + (at+k+(at+k)/256*31)%255)
	}
	return b
}

// blocks returns all blocks of the file system; those of the journal are zeros.
func (p plain) blocks() [][]byte {
	all := make([][]byte, len(p.owners))
	for n := range all {
		if all[n] = p.bytes[n]; fixedAt(n) {
			all[n] = make([]byte, 256)
		}
	}
	all[0], _ = super.Encode(p.s)
	all[63] = all[0]
	for g := range len(p.owners) / 64 {
		list := p.owners[64*g : 64*g+64]
		of, _ := group.Of(g, list)
		all[geom.Desc(g)], _ = group.Encode(of)
		all[geom.Owners(g)], _ = group.Page(list)
	}
	for k, n := range p.s.Table {
		all[n], _ = inode.Encode(p.nodes[8*k : 8*k+8])
	}
	return all
}

// lots draws numbers, the same ones each time.
type lots uint64

// below draws a number from 0 to n - 1.
func (l *lots) below(n int) int {
	*l = *l*6364136223846793005 + 1442695040888963407
	return int(uint64(*l) >> 33 % uint64(n))
}

// pick draws one of these.
func (l *lots) pick(list []int) int { return list[l.below(len(list))] }

// inos holds numbers that are no inode's, such that are, of free ones as well, and such that would be one if they were cut to fewer bits.
var inos = []int{
	math.MinInt, math.MinInt + 1, -1 << 32, -1<<32 + 2, -257, -48, -46, -8, -2, -1, 0, 1, 2, 3, 4, 7, 8, 9, 15, 16, 31, 40, 46, 47, 48, 49, 50, 56, 64,
	255, 256, 257, 258, 1 << 16, 1<<16 + 1, 1<<16 + 2, 1 << 32, 1<<32 + 1, 1<<32 + 2, 0xfffe, 0xffff, math.MaxInt - 1, math.MaxInt,
}

// offsets holds numbers about each edge of a file's bytes, and far from them.
var offsets = []int{
	math.MinInt, math.MinInt + 1, math.MinInt + 300, -1 << 32, -1<<32 + 300, -1 << 31, -35328, -257, -256, -2, -1, 0, 1, 2, 100, 254, 255, 256, 257, 300, 511, 512, 513, 768, 1023, 1024, 1025, 1280, 1399, 1400, 1401,
	2303, 2304, 2305, 2558, 2559, 2560, 2561, 2562, 2816, 2999, 3000, 3001, 3072, 9000, 34303, 34304, 34305, 35071, 35072, 35073, 35199, 35200, 35201, 35326, 35327, 35328, 35329, 35330, 35584,
	1<<16 - 1, 1 << 16, 1<<16 + 300, 1 << 31, 1 << 32, 1<<32 + 300, math.MaxInt - 300, math.MaxInt - 1, math.MaxInt,
}

// lengths holds numbers of bytes about each edge of what a Write takes.
var lengths = []int{0, 1, 2, 100, 255, 256, 257, 511, 512, 513, 768, 1000, 1022, 1023, 1024, 1025, 1026, 1280, 5000, 40000}
