package table

import (
	"bytes"
	"maps"
	"math"
	"slices"
	"testing"

	"ashlar/api"
	"ashlar/disk"
	"ashlar/geom"
	"ashlar/group"
	"ashlar/inode"
	"ashlar/pack"
	"ashlar/store"
	"ashlar/super"
)

// cell is the inodes of one block.
type cell [8]inode.Inode

// plain is a file system as the chapter tells it: a superblock, an owner for each block of the disk, and the blocks that have inodes, those of the table among them.
type plain struct {
	s      super.Super
	owners []api.Owner
	cells  map[int]cell
}

// Owners: the free one, the fixed one, some that a used block has, and some that are not well formed.
var (
	unowned    = api.Owner{}
	fixedOwner = api.Owner{Ino: 0xffff}
	used       = []api.Owner{{Ino: 0xfffe}, {Ino: 0xfffe, At: 5}, {Ino: 1}, {Ino: 1, At: 137}, {Ino: 47, At: 0xffff}, {Ino: 20, At: 77}}
	malformed  = []api.Owner{{At: 1}, {Ino: 0xffff, At: 1}, {Ino: 0xfffe, At: 6}, {Ino: 48}, {Ino: 1, At: 138}, {Ino: 47, At: 0xfffe}}
)

// fixedAt says the layout.
func fixedAt(n int) bool {
	return n <= 42 || n == 63 || n >= 64 && n%64 <= 1
}

// fresh returns a new file system.
func fresh(blocks int) plain {
	p := plain{s: super.Super{Blocks: blocks, Table: freshTable()}, owners: make([]api.Owner, blocks), cells: map[int]cell{}}
	for n := range p.owners {
		if fixedAt(n) {
			p.owners[n] = fixedOwner
		}
	}
	for k, n := range p.s.Table {
		p.owners[n] = api.Owner{Ino: api.Table, At: uint16(k)}
		p.cells[n] = cell{}
	}
	p.cells[43] = cell{1: {Kind: api.Dir, Links: 1}}
	return p
}

// freshTable says where the table of a new file system is.
func freshTable() [6]int { return [6]int{43, 44, 45, 46, 47, 48} }

// places says which blocks of group 0 have inodes in a scattered file system: the first ones are the table's, if that isn't in another group.
func places() []int { return []int{62, 43, 58, 47, 55, 50, 49, 60, 45, 53} }

// scattered returns a file system whose table is anywhere, many of whose inodes and blocks are used, and in which further blocks have inodes.
func scattered(blocks, seed int) plain {
	l, p := lots(seed), fresh(blocks)
	for _, n := range p.s.Table {
		p.owners[n] = unowned
	}
	for n := range p.owners {
		if p.owners[n] == unowned && l.below(3) > 0 {
			p.owners[n] = used[l.below(len(used))]
		}
	}
	p.cells = map[int]cell{}
	for k, n := range places() {
		if k < 6 && k%2 == 1 && blocks > 64 {
			n += 64 * l.below(blocks/64)
		}
		if k < 6 {
			p.s.Table[k] = n
			p.owners[n] = api.Owner{Ino: api.Table, At: uint16(k)}
		}
		p.cells[n] = l.cell()
	}
	return p
}

// clone returns the same file system, of which changes are apart.
func (p plain) clone() plain {
	return plain{s: p.s, owners: slices.Clone(p.owners), cells: maps.Clone(p.cells)}
}

// equal reports whether both are the same file system.
func (p plain) equal(q plain) bool {
	return p.s == q.s && slices.Equal(p.owners, q.owners) && maps.Equal(p.cells, q.cells)
}

// limit says below which number blocks are taken.
func (p plain) limit() int {
	if p.s.State == 2 {
		return p.s.Target
	}
	return p.s.Blocks
}

func (p *plain) setSuper(s super.Super) api.Errno {
	if !super.Formed(s) {
		return api.ErrArg
	}
	p.s = s
	return api.OK
}

func (p *plain) get(ino int) (inode.Inode, api.Errno) {
	if ino < 1 || ino > 47 {
		return inode.Inode{}, api.ErrArg
	}
	c, ok := p.cells[p.s.Table[ino/8]]
	if !ok {
		return inode.Inode{}, api.ErrClean
	}
	return c[ino%8], api.OK
}

func (p *plain) put(ino int, i inode.Inode) api.Errno {
	if ino < 1 || ino > 47 || !inode.Formed(i) {
		return api.ErrArg
	}
	n := p.s.Table[ino/8]
	c, ok := p.cells[n]
	if !ok {
		return api.ErrClean
	}
	c[ino%8] = i
	p.cells[n] = c
	return api.OK
}

func (p *plain) create(kind int) (int, api.Errno) {
	if kind < 1 || kind > 3 {
		return 0, api.ErrArg
	}
	for ino := 1; ino < 48; ino++ {
		i, e := p.get(ino)
		if e != api.OK {
			return 0, e
		}
		if i.Kind == api.Free {
			return ino, p.put(ino, inode.Inode{Kind: kind})
		}
	}
	return 0, api.ErrNoSpace
}

// count returns how many open blocks below blocks are used, and how many there are.
func (p *plain) count(blocks int) (int, int) {
	inUse, all := 0, 0
	for n, o := range p.owners[:blocks] {
		if !fixedAt(n) {
			all++
			if o != unowned {
				inUse++
			}
		}
	}
	return inUse, all
}

func (p *plain) take(goal int, o api.Owner) (int, api.Errno) {
	if !slices.Contains(used, o) {
		return 0, api.ErrArg
	}
	limit := p.limit()
	inUse, _ := p.count(p.s.Blocks)
	if _, all := p.count(limit); inUse >= all {
		return 0, api.ErrNoSpace
	}
	if goal < 0 || goal >= limit {
		goal = 0
	}
	for i := range 2 * limit {
		if n := i % limit; (i >= limit || n >= goal) && p.owners[n] == unowned {
			p.owners[n] = o
			return n, api.OK
		}
	}
	return 0, api.ErrNoSpace
}

func (p *plain) give(n int) api.Errno {
	if n < 0 || n >= len(p.owners) || fixedAt(n) || p.owners[n] == unowned {
		return api.ErrArg
	}
	p.owners[n] = unowned
	return api.OK
}

// action is one call, by its name; n is the number of an inode or block, a kind or a goal.
type action struct {
	call string
	n    int
	s    super.Super
	i    inode.Inode
	o    api.Owner
}

// answer is what a call returns.
type answer struct {
	n int
	s super.Super
	i inode.Inode
	e api.Errno
}

// asked makes the call.
func asked(f *FS, a action) answer {
	x := answer{}
	switch a.call {
	case "Super":
		x.s, x.e = f.Super()
	case "SetSuper":
		x.e = f.SetSuper(a.s)
	case "Get":
		x.i, x.e = f.Get(a.n)
	case "Put":
		x.e = f.Put(a.n, a.i)
	case "Make":
		x.n, x.e = f.Make(a.n)
	case "Take":
		x.n, x.e = f.Take(a.n, a.o)
	case "Give":
		x.e = f.Give(a.n)
	}
	return x
}

// follow does plainly what the call does, and says what it returns.
func (p *plain) follow(a action) answer {
	x := answer{}
	switch a.call {
	case "Super":
		x.s = p.s
	case "SetSuper":
		x.e = p.setSuper(a.s)
	case "Get":
		x.i, x.e = p.get(a.n)
	case "Put":
		x.e = p.put(a.n, a.i)
	case "Make":
		x.n, x.e = p.create(a.n)
	case "Take":
		x.n, x.e = p.take(a.n, a.o)
	case "Give":
		x.e = p.give(a.n)
	}
	return x
}

// changes reports whether the call is one that changes something.
func (a action) changes() bool { return a.call != "Super" && a.call != "Get" }

// answers asks for an answer.
func answers(t *testing.T, f *FS, a action, want answer) {
	t.Helper()
	if got := asked(f, a); got != want {
		t.Fatalf("%+v: %+v, not %+v", a, got, want)
	}
}

// refused asks for an error, with nothing beside it.
func refused(t *testing.T, f *FS, a action, want api.Errno) {
	t.Helper()
	answers(t, f, a, answer{e: want})
}

// does asks for an error.
func does(t *testing.T, what string, e, want api.Errno) {
	t.Helper()
	if e != want {
		t.Fatalf("%s: %v, not %v", what, e, want)
	}
}

// twin is a file system on a store, and what the chapter says of it.
type twin struct {
	d *disk.Disk
	f *FS
	p plain
}

// twinOf lays a file system on a disk, and opens its store; a call is open.
func twinOf(t *testing.T, p plain) *twin {
	t.Helper()
	d := disk.New(len(p.owners))
	for n, b := range p.blocks() {
		d.Damage(n, b)
	}
	return (&twin{d: d, p: p}).open(t)
}

// open opens the store, and a call.
func (w *twin) open(t *testing.T) *twin {
	t.Helper()
	s, e := store.Open(w.d)
	does(t, "Open", e, api.OK)
	does(t, "Begin", s.Begin(), api.OK)
	w.f = New(s)
	return w
}

// do makes the call, and holds its answer.
func (w *twin) do(t *testing.T, a action) {
	t.Helper()
	answers(t, w.f, a, w.p.follow(a))
}

// end ends the call.
func (w *twin) end(t *testing.T, keep bool) {
	t.Helper()
	does(t, "End", w.f.S.End(keep), api.OK)
}

// next ends the call, and opens another one.
func (w *twin) next(t *testing.T, keep bool) {
	t.Helper()
	w.end(t, keep)
	does(t, "Begin", w.f.S.Begin(), api.OK)
}

// spoil makes block n b, within the call.
func (w *twin) spoil(t *testing.T, n int, b []byte) {
	t.Helper()
	does(t, "Put", w.f.S.Put(n, b), api.OK)
}

// odd returns the first block that is not as the chapter says, or -1.
func (w *twin) odd() int {
	for n, want := range w.p.blocks() {
		if b, e := w.f.S.Get(n); e != api.OK || !journaled(n) && !bytes.Equal(b, want) {
			return n
		}
	}
	return -1
}

// holds holds all blocks, also those that this layer never writes.
func (w *twin) holds(t *testing.T) {
	t.Helper()
	if n := w.odd(); n >= 0 {
		b, e := w.f.S.Get(n)
		t.Fatalf("block %d is %x, %v, not %x", n, b, e, w.p.blocks()[n])
	}
}

func journaled(n int) bool { return n >= 3 && n <= 42 }

// filled returns the bytes of a block that is none of this layer's.
func filled(n int) []byte {
	b := make([]byte, 256)
	for i := range b {
		b[i] = byte(n*31 + i*7 + n/8 + 201)
	}
	return b
}

// blocks returns all blocks of the file system; those of the journal are zeros.
func (p plain) blocks() [][]byte {
	all := make([][]byte, len(p.owners))
	for n := range all {
		all[n] = filled(n)
		if journaled(n) {
			all[n] = make([]byte, 256)
		}
	}
	all[0], all[63] = superBytes(p.s), superBytes(p.s)
	for g := range len(p.owners) / 64 {
		list := p.owners[64*g : 64*g+64]
		of, _ := group.Of(g, list)
		all[geom.Desc(g)], _ = group.Encode(of)
		all[geom.Owners(g)], _ = group.Page(list)
	}
	for n, c := range p.cells {
		all[n], _ = inode.Encode(c[:])
	}
	return all
}

// superBytes returns the sealed block of s, well formed or not.
func superBytes(s super.Super) []byte {
	b := []byte("ashlar 1")
	b = append(b, byte(s.Blocks), byte(s.Blocks>>8), byte(s.State))
	for _, n := range append([]int{s.Target, s.Cursor, s.Ino, s.Base}, s.Table[:]...) {
		b = append(b, byte(n), byte(n>>8))
	}
	b, _ = pack.Seal(b)
	return b
}

// lots draws numbers, the same ones each time.
type lots uint64

// below draws a number from 0 to n - 1.
func (l *lots) below(n int) int {
	*l = *l*6364136223846793005 + 1442695040888963407
	return int(uint64(*l) >> 33 % uint64(n))
}

// cell draws the inodes of a block.
func (l *lots) cell() cell {
	c := cell{}
	for k := range c {
		if l.below(3) > 0 {
			c[k] = l.inode()
		}
	}
	return c
}

// inode draws one that is well formed, and not free.
func (l *lots) inode() inode.Inode {
	i := inode.Inode{Kind: 1 + l.below(3), Links: l.below(201), Size: l.below(35329), Map: l.below(768)}
	if i.Kind == api.Link {
		i.Size %= 201
	}
	for k := range i.Direct {
		if l.below(2) > 0 {
			i.Direct[k] = l.below(768)
		}
	}
	return i
}

// numbers holds such that are no inode's, edges of those that are, and such that would be one if they were cut to fewer bits.
var numbers = []int{
	math.MinInt, math.MinInt + 1, -1 << 32, -257, -48, -8, -2, -1, 0, 1, 2, 6, 7, 8, 9, 15, 16, 17, 23, 24, 31, 32, 39, 40, 41, 46, 47, 48, 49, 55, 56, 64,
	255, 256, 257, 1 << 16, 1<<16 + 1, 1 << 32, 1<<32 + 1, 1<<32 + 20, math.MaxInt - 1, math.MaxInt,
}

// goals holds numbers of blocks about each edge, and far from them.
var goals = []int{
	math.MinInt, -1 << 32, -64, -2, -1, 0, 1, 2, 3, 42, 43, 44, 48, 49, 50, 61, 62, 63, 64, 65, 66, 67, 100, 126, 127, 128, 129, 130, 190, 191, 192, 193,
	255, 256, 703, 704, 766, 767, 768, 769, 1 << 16, 1<<16 + 50, 1 << 32, 1<<32 + 50, math.MaxInt,
}
