package fmap

import (
	"bytes"
	"maps"
	"math"
	"slices"
	"testing"

	"ashlar/api"
	"ashlar/disk"
	"ashlar/geom"
	"ashlar/group"
	"ashlar/inode"
	"ashlar/store"
	"ashlar/super"
	"ashlar/table"
)

// plain is a file system as the chapters tell it: a superblock, an owner for each block of the disk, the inodes, and the bytes of the open blocks.
type plain struct {
	s      super.Super
	owners []api.Owner
	nodes  [48]inode.Inode
	bytes  map[int][]byte // never changed in place
}

var (
	unowned    = api.Owner{}
	fixedOwner = api.Owner{Ino: 0xffff}
)

// fixedAt says the layout.
func fixedAt(n int) bool {
	return n <= 42 || n == 63 || n >= 64 && n%64 <= 1
}

// fresh returns a file system in which the inodes 1, 2, 3, 8 and 47 are in use and have no blocks. Its free blocks are full of what was there before.
func fresh(blocks int) plain {
	p := plain{s: super.Super{Blocks: blocks, Table: [6]int{43, 44, 45, 46, 47, 48}}, owners: make([]api.Owner, blocks), bytes: map[int][]byte{}}
	for n := range p.owners {
		if fixedAt(n) {
			p.owners[n] = fixedOwner
		} else {
			p.bytes[n] = filled(n)
		}
	}
	for k, n := range p.s.Table {
		p.owners[n] = api.Owner{Ino: api.Table, At: uint16(k)}
	}
	p.nodes[1] = inode.Inode{Kind: api.Dir, Links: 1, Size: 64}
	p.nodes[2] = inode.Inode{Kind: api.File, Links: 2, Size: 35328}
	p.nodes[3] = inode.Inode{Kind: api.Link, Links: 1, Size: 200}
	p.nodes[8] = inode.Inode{Kind: api.File}
	p.nodes[47] = inode.Inode{Kind: api.File, Links: 200, Size: 3}
	return p
}

// inUse holds the numbers of the inodes that fresh gives a kind.
var inUse = []int{1, 2, 3, 8, 47}

// place makes n the location of block i of that inode, and its owner; the map, if one is needed, is there already.
func (p *plain) place(ino, i, n int) {
	p.owners[n] = api.Owner{Ino: uint16(ino), At: uint16(i)}
	p.locate(ino, i, n)
}

// placeMap makes n the map of that inode.
func (p *plain) placeMap(ino, n int) {
	p.owners[n] = api.Owner{Ino: uint16(ino), At: 0xffff}
	p.nodes[ino].Map = n
	p.bytes[n] = make([]byte, 256)
}

// occupy gives all free blocks but those of list to inode 47, as its block 0.
func (p *plain) occupy(but ...int) {
	for n, o := range p.owners {
		if o == unowned && !slices.Contains(but, n) {
			p.owners[n] = api.Owner{Ino: 47}
		}
	}
}

// with returns a fresh file system in which inode 2 has the blocks of list at these locations, and its map at the block at, if that is not 0.
func with(blocks, at int, list ...int) plain {
	p := fresh(blocks)
	if at > 0 {
		p.placeMap(2, at)
	}
	for i, n := range list {
		if n > 0 {
			p.place(2, i, n)
		}
	}
	return p
}

// scattered returns a file system whose inodes have blocks anywhere, about that many in all.
func scattered(blocks, seed, many int) plain {
	l, p := lots(seed), fresh(blocks)
	var open []int
	for n, o := range p.owners {
		if o == unowned {
			open = append(open, n)
		}
	}
	draw := func() int {
		k := l.below(len(open))
		n := open[k]
		open = slices.Delete(open, k, k+1)
		return n
	}
	for k := range min(many, len(open)/2) {
		ino, i := inUse[l.below(5)], l.below(12)
		if k%2 == 1 {
			i = l.below(138)
		}
		if i >= 10 && p.nodes[ino].Map == 0 {
			p.placeMap(ino, draw())
		}
		if n, _ := p.at(ino, i); n == 0 {
			p.place(ino, i, draw())
		}
	}
	return p
}

// clone returns the same file system, of which changes are apart.
func (p plain) clone() plain {
	return plain{s: p.s, owners: slices.Clone(p.owners), nodes: p.nodes, bytes: maps.Clone(p.bytes)}
}

// equal reports whether both are the same file system.
func (p plain) equal(q plain) bool {
	return p.s == q.s && slices.Equal(p.owners, q.owners) && p.nodes == q.nodes && maps.EqualFunc(p.bytes, q.bytes, bytes.Equal)
}

// is returns the error of asking for that inode.
func (p *plain) is(ino int) api.Errno {
	if ino < 1 || ino > 47 || p.nodes[ino].Kind == 0 {
		return api.ErrArg
	}
	return api.OK
}

// mapped returns the locations in the inode's map.
func (p *plain) mapped(ino int) []int {
	list := make([]int, 128)
	if at := p.nodes[ino].Map; at > 0 {
		for k := range list {
			list[k] = int(p.bytes[at][2*k]) + 256*int(p.bytes[at][2*k+1])
		}
	}
	return list
}

// all returns the locations of all of the inode's blocks.
func (p *plain) all(ino int) []int {
	n := p.nodes[ino]
	return append(n.Direct[:], p.mapped(ino)...)
}

// locate makes n the location of block i.
func (p *plain) locate(ino, i, n int) {
	if i < 10 {
		p.nodes[ino].Direct[i] = n
		return
	}
	at := p.nodes[ino].Map
	b := slices.Clone(p.bytes[at])
	b[2*i-20], b[2*i-19] = byte(n), byte(n>>8)
	p.bytes[at] = b
}

func (p *plain) at(ino, i int) (int, api.Errno) {
	if e := p.is(ino); e != api.OK {
		return 0, e
	}
	if i < 0 || i > 137 {
		return 0, api.ErrArg
	}
	return p.all(ino)[i], api.OK
}

func (p *plain) set(ino, i, n int) api.Errno {
	if was, e := p.at(ino, i); e != api.OK || was == 0 || n < 1 || n > 767 {
		return api.ErrArg
	}
	p.locate(ino, i, n)
	return api.OK
}

// count returns how many open blocks below blocks are used, and how many there are.
func (p *plain) count(blocks int) (int, int) {
	used, all := 0, 0
	for n, o := range p.owners[:blocks] {
		if !fixedAt(n) {
			all++
			if o != unowned {
				used++
			}
		}
	}
	return used, all
}

// limit says below which number blocks are taken.
func (p *plain) limit() int {
	if p.s.State == 2 {
		return p.s.Target
	}
	return p.s.Blocks
}

// take gives a free block to the inode, with zero bytes.
func (p *plain) take(goal, ino, at int) (int, api.Errno) {
	limit := p.limit()
	used, _ := p.count(p.s.Blocks)
	if _, all := p.count(limit); used >= all {
		return 0, api.ErrNoSpace
	}
	if goal < 0 || goal >= limit {
		goal = 0
	}
	for k := range 2 * limit {
		if n := k % limit; (k >= limit || n >= goal) && p.owners[n] == unowned {
			p.owners[n] = api.Owner{Ino: uint16(ino), At: uint16(at)}
			p.bytes[n] = make([]byte, 256)
			return n, api.OK
		}
	}
	return 0, api.ErrNoSpace
}

func (p *plain) mapBlock(ino, i int) (int, api.Errno) {
	n, e := p.at(ino, i)
	if e != api.OK || n != 0 {
		return n, e
	}
	if i >= 10 && p.nodes[ino].Map == 0 {
		at, e := p.take(0, ino, 0xffff)
		if e != api.OK {
			return 0, e
		}
		p.nodes[ino].Map = at
	}
	goal := 0
	if i > 0 && p.all(ino)[i-1] > 0 {
		goal = p.all(ino)[i-1] + 1
	}
	n, e = p.take(goal, ino, i)
	if e == api.OK {
		p.locate(ino, i, n)
	}
	return n, e
}

// free makes block n free.
func (p *plain) free(n int) api.Errno {
	if n >= len(p.owners) || fixedAt(n) || p.owners[n] == unowned {
		return api.ErrArg
	}
	p.owners[n] = unowned
	return api.OK
}

func (p *plain) cut(ino, from int) api.Errno {
	if e := p.is(ino); e != api.OK || from < 0 {
		return api.ErrArg
	}
	for i, n := range p.all(ino) {
		if i < from || n == 0 {
			continue
		}
		if e := p.free(n); e != api.OK {
			return e
		}
		p.locate(ino, i, 0)
	}
	if p.nodes[ino].Map == 0 || slices.Max(p.mapped(ino)) > 0 {
		return api.OK
	}
	if e := p.free(p.nodes[ino].Map); e != api.OK {
		return e
	}
	p.nodes[ino].Map = 0
	return api.OK
}

func (p *plain) list(ino int) ([]int, api.Errno) {
	if e := p.is(ino); e != api.OK {
		return nil, e
	}
	list := []int{}
	for i, n := range p.all(ino) {
		if n > 0 {
			list = append(list, make([]int, i-len(list))...)
			list = append(list, n)
		}
	}
	return list, api.OK
}

// pieces counts the blocks with which none of the inode's blocks goes on.
func (p *plain) pieces(ino int) (int, api.Errno) {
	if e := p.is(ino); e != api.OK {
		return 0, e
	}
	count, all := 0, append(p.all(ino), 0)
	for i, n := range all[:138] {
		if n > 0 && (all[i+1] == 0 || all[i+1] != n+1) {
			count++
		}
	}
	return count, api.OK
}

// action is one call, by its name; i is the number of a block of the inode, or where it is cut.
type action struct {
	call      string
	ino, i, n int
}

// answer is what a call returns.
type answer struct {
	n    int
	list []int
	e    api.Errno
}

func (x answer) equal(y answer) bool { return x.n == y.n && x.e == y.e && slices.Equal(x.list, y.list) }

// asked makes the call.
func asked(f *table.FS, a action) answer {
	x := answer{}
	switch a.call {
	case "At":
		x.n, x.e = At(f, a.ino, a.i)
	case "Set":
		x.e = Set(f, a.ino, a.i, a.n)
	case "Map":
		x.n, x.e = Map(f, a.ino, a.i)
	case "Cut":
		x.e = Cut(f, a.ino, a.i)
	case "Blocks":
		x.list, x.e = Blocks(f, a.ino)
	case "Pieces":
		x.n, x.e = Pieces(f, a.ino)
	}
	return x
}

// follow does plainly what the call does, and says what it returns.
func (p *plain) follow(a action) answer {
	x := answer{}
	switch a.call {
	case "At":
		x.n, x.e = p.at(a.ino, a.i)
	case "Set":
		x.e = p.set(a.ino, a.i, a.n)
	case "Map":
		x.n, x.e = p.mapBlock(a.ino, a.i)
	case "Cut":
		x.e = p.cut(a.ino, a.i)
	case "Blocks":
		x.list, x.e = p.list(a.ino)
	case "Pieces":
		x.n, x.e = p.pieces(a.ino)
	}
	return x
}

// six holds the names of the calls.
var six = []string{"At", "Set", "Map", "Cut", "Blocks", "Pieces"}

// answers asks for an answer.
func answers(t *testing.T, f *table.FS, a action, want answer) {
	t.Helper()
	if got := asked(f, a); !got.equal(want) {
		t.Fatalf("%+v: %+v, not %+v", a, got, want)
	}
}

// refused asks for an error, with nothing beside it.
func refused(t *testing.T, f *table.FS, a action, want api.Errno) {
	t.Helper()
	got := asked(f, a)
	if got.e != want || got.n != 0 || len(got.list) > 0 {
		t.Fatalf("%+v: %+v, not %v", a, got, want)
	}
}

// does asks for an error.
func does(t *testing.T, what string, e, want api.Errno) {
	t.Helper()
	if e != want {
		t.Fatalf("%s: %v, not %v", what, e, want)
	}
}

// twin is a file system on a store, and what the chapters say of it.
type twin struct {
	d *disk.Disk
	f *table.FS
	p plain
}

// twinOf lays a file system on a disk, and opens its store; a call is open.
func twinOf(t *testing.T, p plain) *twin {
	t.Helper()
	d := disk.New(len(p.owners))
	for n, b := range p.blocks() {
		d.Damage(n, b)
	}
	return (&twin{d: d, p: p.clone()}).open(t)
}

// open opens the store, and a call.
func (w *twin) open(t *testing.T) *twin {
	t.Helper()
	s, e := store.Open(w.d)
	does(t, "Open", e, api.OK)
	does(t, "Begin", s.Begin(), api.OK)
	w.f = table.New(s)
	return w
}

// do makes the call, and holds its answer.
func (w *twin) do(t *testing.T, a action) {
	t.Helper()
	answers(t, w.f, a, w.p.follow(a))
}

// end ends the call.
func (w *twin) end(t *testing.T, keep bool) {
	t.Helper()
	does(t, "End", w.f.S.End(keep), api.OK)
}

// next ends the call, and opens another one.
func (w *twin) next(t *testing.T, keep bool) {
	t.Helper()
	w.end(t, keep)
	does(t, "Begin", w.f.S.Begin(), api.OK)
}

// spoil makes block n b, within the call.
func (w *twin) spoil(t *testing.T, n int, b []byte) {
	t.Helper()
	does(t, "Put", w.f.S.Put(n, b), api.OK)
}

// odd returns the first block that is not as the chapters say, or -1. What a free block has, nothing says.
func (w *twin) odd() int {
	for n, want := range w.p.blocks() {
		if journaled(n) || w.p.owners[n] == unowned {
			continue
		}
		if b, e := w.f.S.Get(n); e != api.OK || !bytes.Equal(b, want) {
			return n
		}
	}
	return -1
}

// holds holds all blocks but the free ones.
func (w *twin) holds(t *testing.T) {
	t.Helper()
	if n := w.odd(); n >= 0 {
		b, e := w.f.S.Get(n)
		t.Fatalf("block %d is %x, %v, not %x", n, b, e, w.p.blocks()[n])
	}
}

// picture returns the bytes of all blocks, the free ones as well.
func (w *twin) picture() [][]byte {
	all := make([][]byte, len(w.p.owners))
	for n := range all {
		all[n], _ = w.f.S.Get(n)
	}
	return all
}

// unchanged holds that no block is another than in that picture.
func (w *twin) unchanged(t *testing.T, was [][]byte) {
	t.Helper()
	for n, b := range w.picture() {
		if !bytes.Equal(b, was[n]) {
			t.Fatalf("block %d is changed", n)
		}
	}
}

func journaled(n int) bool { return n >= 3 && n <= 42 }

// filled returns bytes that were left in a block by something else; they are no map's.
func filled(n int) []byte {
	b := make([]byte, 256)
	for i := range b {
		b[i] = byte(n*31 + i*7 + n/8 + 201)
	}
	return b
}

// blocks returns all blocks of the file system; those of the journal are zeros.
func (p plain) blocks() [][]byte {
	all := make([][]byte, len(p.owners))
	for n := range all {
		if all[n] = p.bytes[n]; fixedAt(n) {
			all[n] = make([]byte, 256)
		}
	}
	all[0], _ = super.Encode(p.s)
	all[63] = all[0]
	for g := range len(p.owners) / 64 {
		list := p.owners[64*g : 64*g+64]
		of, _ := group.Of(g, list)
		all[geom.Desc(g)], _ = group.Encode(of)
		all[geom.Owners(g)], _ = group.Page(list)
	}
	for k, n := range p.s.Table {
		all[n], _ = inode.Encode(p.nodes[8*k : 8*k+8])
	}
	return all
}

// lots draws numbers, the same ones each time.
type lots uint64

// below draws a number from 0 to n - 1.
func (l *lots) below(n int) int {
	*l = *l*6364136223846793005 + 1442695040888963407
	return int(uint64(*l) >> 33 % uint64(n))
}

// inos holds numbers that are no inode's, such that are, of free ones as well, and such that would be one if they were cut to fewer bits.
var inos = []int{
	math.MinInt, math.MinInt + 1, -1 << 32, -1<<32 + 2, -257, -48, -46, -8, -2, -1, 0, 1, 2, 3, 4, 7, 8, 9, 15, 16, 31, 40, 46, 47, 48, 49, 50, 56, 64,
	255, 256, 257, 258, 1 << 16, 1<<16 + 1, 1<<16 + 2, 1 << 32, 1<<32 + 1, 1<<32 + 2, 0xfffe, 0xffff, math.MaxInt - 1, math.MaxInt,
}

// indices holds numbers about each edge of a file's blocks, and far from them.
var indices = []int{
	math.MinInt, math.MinInt + 1, -1 << 32, -1<<32 + 3, -138, -128, -11, -10, -9, -2, -1, 0, 1, 2, 5, 8, 9, 10, 11, 12, 73, 127, 128, 129, 136, 137, 138, 139, 140,
	255, 256, 257, 266, 1<<16 - 1, 1 << 16, 1<<16 + 3, 1<<16 + 12, 1 << 32, 1<<32 + 3, 1<<32 + 12, math.MaxInt - 1, math.MaxInt,
}

// locations holds numbers about each edge of the blocks that there can be, and far from them.
var locations = []int{
	math.MinInt, math.MinInt + 1, -1 << 32, -1<<32 + 50, -1 << 16, -768, -767, -64, -2, -1, 0, 1, 2, 3, 42, 43, 49, 62, 63, 64, 65, 66, 127, 128, 255, 256, 511, 512, 703, 704, 766, 767,
	768, 769, 1<<16 - 1, 1 << 16, 1<<16 + 1, 1<<16 + 50, 1 << 32, 1<<32 + 1, 1<<32 + 50, math.MaxInt - 1, math.MaxInt,
}
