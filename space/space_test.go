package space

import (
	"bytes"
	"math"
	"slices"
	"strconv"
	"testing"

	"ashlar/api"
	"ashlar/disk"
	"ashlar/group"
	"ashlar/store"
)

// What has its place in the layout, written out: the most blocks of a call, how many blocks there can be, and the sizes.
const (
	room     = 37
	numbered = 768
)

var sizes = []int{64, 128, 192, 256, 320, 384, 448, 512, 576, 640, 704, 768}

// notSizes holds numbers that are no sizes: about each edge, between, and such that are sizes when cut to fewer bits.
var notSizes = []int{
	math.MinInt, math.MinInt + 64, -1 << 32, -768, -128, -64, -1, 0, 1, 2, 32, 63, 65, 96, 127, 129, 191, 193, 500, 703, 705, 767, 769,
	800, 832, 1024, 1 << 16, 1<<16 + 64, 1 << 32, 1<<32 + 64, math.MaxInt - 63, math.MaxInt,
}

// notBlocks holds numbers that no block has.
var notBlocks = []int{math.MinInt, math.MinInt + 50, -1 << 32, -768, -64, -21, -1, 768, 769, 788, 832, 1 << 16, 1<<16 + 50, 1 << 32, 1<<32 + 50, math.MaxInt}

// Owners: the free one, the fixed one, some that a used block has, and some that are not well formed.
var (
	unowned    = api.Owner{}
	fixedOwner = api.Owner{Ino: 0xffff}
	kinds      = []api.Owner{
		{Ino: 0xfffe}, {Ino: 0xfffe, At: 5}, {Ino: 1}, {Ino: 1, At: 9}, {Ino: 1, At: 10}, {Ino: 1, At: 137}, {Ino: 1, At: 0xffff},
		{Ino: 47}, {Ino: 47, At: 137}, {Ino: 47, At: 0xffff}, {Ino: 20, At: 77},
	}
	malformed = []api.Owner{
		{At: 1}, {At: 0xffff}, {Ino: 0xffff, At: 1}, {Ino: 0xffff, At: 0xffff}, {Ino: 0xfffe, At: 6}, {Ino: 0xfffe, At: 0xffff},
		{Ino: 48}, {Ino: 48, At: 0xffff}, {Ino: 0xfffd}, {Ino: 256, At: 1}, {Ino: 1, At: 138}, {Ino: 47, At: 138}, {Ino: 1, At: 0xfffe}, {Ino: 1, At: 256},
	}
)

// plain is the owners of a file system, one a block; it does what the chapter says, plainly.
type plain []api.Owner

// fresh returns the owners of a new file system.
func fresh(blocks int) plain {
	p := make(plain, blocks)
	for n := range p {
		if fixedAt(n) {
			p[n] = fixedOwner
		}
	}
	return p
}

// fixedAt says the layout.
func fixedAt(n int) bool {
	return n <= 42 || n == 63 || n >= 64 && n%64 <= 1
}

// mixed returns owners of which about one in so many is free, drawn by a seed.
func mixed(blocks, seed, in int) plain {
	l, p := lots(seed), fresh(blocks)
	for n := range p {
		if !fixedAt(n) && l.below(in) > 0 {
			p[n] = kinds[l.below(len(kinds))]
		}
	}
	return p
}

// full returns owners of which no open one is free.
func full(blocks int) plain {
	p := fresh(blocks)
	for n := range p {
		if !fixedAt(n) {
			p[n] = kinds[n%len(kinds)]
		}
	}
	return p
}

// isSize reports whether the file system has groups for a size.
func (p plain) isSize(blocks int) bool {
	return slices.Contains(sizes, blocks) && blocks <= len(p)
}

func (p plain) owner(n int) (api.Owner, api.Errno) {
	if n < 0 || n >= len(p) {
		return unowned, api.ErrArg
	}
	return p[n], api.OK
}

func (p plain) setOwner(n int, o api.Owner) api.Errno {
	if n < 0 || n >= len(p) || fixedAt(n) || o != unowned && !slices.Contains(kinds, o) {
		return api.ErrArg
	}
	p[n] = o
	return api.OK
}

// count returns how many open blocks below that number are used, or are not.
func (p plain) count(blocks int, used bool) int {
	count := 0
	for n, o := range p[:blocks] {
		if !fixedAt(n) && (o != unowned) == used {
			count++
		}
	}
	return count
}

func (p plain) used(blocks int) (int, api.Errno) {
	if !p.isSize(blocks) {
		return 0, api.ErrArg
	}
	return p.count(blocks, true), api.OK
}

func (p plain) find(limit, goal int) (int, api.Errno) {
	if !p.isSize(limit) {
		return 0, api.ErrArg
	}
	if goal < 0 || goal >= limit {
		goal = 0
	}
	for i := range 2 * limit {
		if n := i % limit; (i >= limit || n >= goal) && p[n] == unowned {
			return n, api.OK
		}
	}
	return -1, api.OK
}

func (p plain) take(blocks, limit, goal int, o api.Owner) (int, api.Errno) {
	if !p.isSize(blocks) || !p.isSize(limit) || limit > blocks || !slices.Contains(kinds, o) {
		return 0, api.ErrArg
	}
	if p.count(blocks, true) >= p.count(limit, true)+p.count(limit, false) {
		return 0, api.ErrNoSpace
	}
	n, e := p.find(limit, goal)
	p[n] = o
	return n, e
}

func (p plain) give(n int) api.Errno {
	if n < 0 || n >= len(p) || fixedAt(n) || p[n] == unowned {
		return api.ErrArg
	}
	p[n] = unowned
	return api.OK
}

func (p plain) run(limit, count int) (int, api.Errno) {
	if !p.isSize(limit) || count < 1 {
		return 0, api.ErrArg
	}
	for n := range limit {
		if count <= limit-n && !slices.ContainsFunc(p[n:n+count], func(o api.Owner) bool { return o != unowned }) {
			return n, api.OK
		}
	}
	return -1, api.OK
}

// action is one call, by its letter: O (Owner), S (SetOwner), U, T (Take), G (Give), F, R; blocks is the limit, too, where there is no other.
type action struct {
	letter           byte
	n, blocks, limit int
	goal             int
	o                api.Owner
}

// answer is what a call returns.
type answer struct {
	n int
	o api.Owner
	e api.Errno
}

// asked makes the call.
func asked(s *store.Store, a action) answer {
	x := answer{}
	switch a.letter {
	case 'O':
		x.o, x.e = Owner(s, a.n)
	case 'S':
		x.e = SetOwner(s, a.n, a.o)
	case 'U':
		x.n, x.e = Used(s, a.blocks)
	case 'T':
		x.n, x.e = Take(s, a.blocks, a.limit, a.goal, a.o)
	case 'G':
		x.e = Give(s, a.n)
	case 'F':
		x.n, x.e = Find(s, a.blocks, a.goal)
	case 'R':
		x.n, x.e = Run(s, a.blocks, a.n)
	}
	return x
}

// follow does plainly what the call does, and says what it returns.
func (p plain) follow(a action) answer {
	x := answer{}
	switch a.letter {
	case 'O':
		x.o, x.e = p.owner(a.n)
	case 'S':
		x.e = p.setOwner(a.n, a.o)
	case 'U':
		x.n, x.e = p.used(a.blocks)
	case 'T':
		x.n, x.e = p.take(a.blocks, a.limit, a.goal, a.o)
	case 'G':
		x.e = p.give(a.n)
	case 'F':
		x.n, x.e = p.find(a.blocks, a.goal)
	case 'R':
		x.n, x.e = p.run(a.blocks, a.n)
	}
	return x
}

// changes reports whether the call is one that changes something.
func (a action) changes() bool { return a.letter == 'S' || a.letter == 'T' || a.letter == 'G' }

// answers asks for an answer.
func answers(t *testing.T, s *store.Store, a action, want answer) {
	t.Helper()
	if got := asked(s, a); got != want {
		t.Fatalf("%c %+v: %+v, not %+v", a.letter, a, got, want)
	}
}

// refused asks for an error, with nothing beside it.
func refused(t *testing.T, s *store.Store, a action, want api.Errno) {
	t.Helper()
	answers(t, s, a, answer{e: want})
}

// twin is a store, and what the chapter says of it.
type twin struct {
	d *disk.Disk
	s *store.Store
	p plain
}

// twinOf lays a file system with those owners on a disk, and opens its store; a call is open.
func twinOf(t *testing.T, p plain) *twin {
	t.Helper()
	return (&twin{d: laidOut(p, len(p)), p: p}).open(t)
}

// open opens the store, and a call.
func (w *twin) open(t *testing.T) *twin {
	t.Helper()
	s, e := store.Open(w.d)
	does(t, "Open", e, api.OK)
	does(t, "Begin", s.Begin(), api.OK)
	w.s = s
	return w
}

// do makes the call, and holds its answer.
func (w *twin) do(t *testing.T, a action) {
	t.Helper()
	answers(t, w.s, a, w.p.follow(a))
}

// next ends the call, keeping it, and opens another one.
func (w *twin) next(t *testing.T) {
	t.Helper()
	does(t, "End", w.s.End(true), api.OK)
	does(t, "Begin", w.s.Begin(), api.OK)
}

// holds holds all blocks: the descriptors and pages are those of the owners, and all others are as they were laid.
func (w *twin) holds(t *testing.T) {
	t.Helper()
	for n, want := range blocksOf(w.p) {
		b, e := w.s.Get(n)
		if e != api.OK || !journaled(n) && !bytes.Equal(b, want) {
			t.Fatalf("block %d is %x, %v, not %x", n, b, e, want)
		}
	}
}

// does asks for an error.
func does(t *testing.T, what string, e, want api.Errno) {
	t.Helper()
	if e != want {
		t.Fatalf("%s: %v, not %v", what, e, want)
	}
}

func journaled(n int) bool { return n >= 3 && n <= 42 }

// filled returns the bytes of a block that is not space's.
func filled(n int) []byte {
	b := make([]byte, 256)
	for i := range b {
		b[i] = byte(n*31 + i*7 + n/8 + 1)
	}
	return b
}

// descAt and pageAt say the layout.
func descAt(g int) int { return max(1, 64*g) }
func pageAt(g int) int { return descAt(g) + 1 }

// pageOf returns the bytes of owners, well formed or not.
func pageOf(list []api.Owner) []byte {
	var b []byte
	for _, o := range list {
		b = append(b, byte(o.Ino), byte(o.Ino>>8), byte(o.At), byte(o.At>>8))
	}
	return b
}

// descOf returns the descriptor of group g for owners.
func descOf(g int, list []api.Owner) []byte {
	d, _ := group.Of(g, list)
	b, _ := group.Encode(d)
	return b
}

// blocksOf returns all blocks of a file system; those of the journal are zeros.
func blocksOf(p plain) [][]byte {
	all := make([][]byte, len(p))
	for n := range all {
		all[n] = filled(n)
		if journaled(n) {
			all[n] = make([]byte, 256)
		}
	}
	for g := range len(p) / 64 {
		list := p[64*g : 64*g+64]
		all[descAt(g)], all[pageAt(g)] = descOf(g, list), pageOf(list)
	}
	return all
}

// laidOut returns a disk of so many blocks, with a file system at its beginning and zeros behind it.
func laidOut(p plain, blocks int) *disk.Disk {
	d := disk.New(blocks)
	for n, b := range blocksOf(p) {
		d.Damage(n, b)
	}
	return d
}

// lots draws numbers, the same ones each time.
type lots uint64

// below draws a number from 0 to n - 1.
func (l *lots) below(n int) int {
	*l = *l*6364136223846793005 + 1442695040888963407
	return int(uint64(*l) >> 33 % uint64(n))
}

// P12.1, Owner: each block, and the edges of numbers, within a call and outside.
func TestOwner(t *testing.T) {
	for seed, blocks := range sizes {
		w := twinOf(t, mixed(blocks, seed, 3))
		for range 2 {
			for n := -70; n < 840; n++ {
				w.do(t, action{letter: 'O', n: n})
			}
			for _, n := range notBlocks {
				refused(t, w.s, action{letter: 'O', n: n}, api.ErrArg)
			}
			w.holds(t)
			w.s.End(true)
		}
	}
	w := twinOf(t, fresh(768))
	for n, want := range map[int]api.Owner{0: fixedOwner, 42: fixedOwner, 43: unowned, 62: unowned, 63: fixedOwner, 64: fixedOwner, 65: fixedOwner, 66: unowned, 127: unowned, 128: fixedOwner, 767: unowned} {
		answers(t, w.s, action{letter: 'O', n: n}, answer{o: want})
	}
}

// P12.1: a group that the file system does not have: ErrArg of the store beyond the disk's end, ErrClean where the disk goes on.
func TestBeyondTheEnd(t *testing.T) {
	for _, blocks := range []int{129, 192, 2000} {
		w := &twin{d: laidOut(fresh(128), blocks), p: fresh(128)}
		w.open(t)
		want := api.ErrClean
		if blocks == 129 {
			want = api.ErrArg // the descriptor's place is there, the page's is not
		}
		for _, a := range []action{
			{letter: 'O', n: 128}, {letter: 'O', n: 191}, {letter: 'S', n: 150, o: kinds[0]}, {letter: 'S', n: 150}, {letter: 'G', n: 150},
			{letter: 'U', blocks: 192}, {letter: 'F', blocks: 192}, {letter: 'R', blocks: 192, n: 1}, {letter: 'T', blocks: 192, limit: 64, o: kinds[0]},
			{letter: 'T', blocks: 192, limit: 192, o: kinds[0]},
		} {
			refused(t, w.s, a, want)
		}
		w.do(t, action{letter: 'T', blocks: 128, limit: 128, goal: 127, o: kinds[3]})
		w.holds(t)
	}
}

// P12.1, SetOwner: edges of numbers and owners of each kind; what is not set is as it was.
func TestSetOwnerEdges(t *testing.T) {
	all := slices.Concat(kinds, malformed, []api.Owner{unowned, fixedOwner})
	for seed, blocks := range []int{64, 128, 192, 768} {
		w := twinOf(t, mixed(blocks, seed, 2))
		for i, o := range all {
			for _, n := range notBlocks {
				refused(t, w.s, action{letter: 'S', n: n, o: o}, api.ErrArg)
			}
			for _, n := range []int{0, 1, 2, 3, 42, 43, 44, 61, 62, 63, 64, 65, 66, 67, 126, 127, 128, 129, 130, 191, 192, 193, 767} {
				w.do(t, action{letter: 'S', n: n, o: o})
			}
			if i%3 == 0 {
				w.next(t)
			}
			w.holds(t)
		}
	}
}

// P12.1, SetOwner: from each owner to each other one and to itself: behind each, the descriptor is that of the owners' page.
func TestSetOwnerUpdates(t *testing.T) {
	all := append(slices.Clone(kinds), unowned)
	w := twinOf(t, fresh(128))
	for i, was := range all {
		for k, o := range all {
			n := []int{43, 62, 66, 127}[(i+k)%4]
			w.do(t, action{letter: 'S', n: n, o: was})
			w.holds(t)
			w.do(t, action{letter: 'S', n: n, o: o})
			w.holds(t)
			w.do(t, action{letter: 'O', n: n})
		}
	}
	for n := range w.p {
		w.do(t, action{letter: 'S', n: n, o: kinds[n%len(kinds)]})
		w.holds(t)
	}
}

// P12.1, Used: sizes and numbers that are none; all free, some used, all used.
func TestUsed(t *testing.T) {
	for seed, blocks := range sizes {
		for _, in := range []int{1, 4, 1 << 30} {
			w := twinOf(t, mixed(blocks, seed, in))
			for _, size := range slices.Concat(sizes, notSizes) {
				w.do(t, action{letter: 'U', blocks: size})
			}
		}
	}
	w := twinOf(t, fresh(768))
	for i, n := range []int{43, 62, 66, 127, 130, 767} {
		answers(t, w.s, action{letter: 'S', n: n, o: kinds[i]}, answer{})
	}
	for blocks, want := range map[int]int{64: 2, 128: 4, 192: 5, 704: 5, 768: 6} {
		answers(t, w.s, action{letter: 'U', blocks: blocks}, answer{n: want})
	}
}

// P12.2, Take, Find, Run: sizes, and numbers that are none; a limit below blocks, the same, and above.
func TestSizes(t *testing.T) {
	for seed, blocks := range []int{64, 192, 768} {
		w := twinOf(t, mixed(blocks, seed, 2))
		all := slices.Concat(sizes, notSizes)
		for i, a := range all {
			for _, b := range all {
				w.do(t, action{letter: 'T', blocks: a, limit: b, goal: 50 * i, o: kinds[i%len(kinds)]})
			}
			w.do(t, action{letter: 'F', blocks: a, goal: 70})
			for _, n := range []int{math.MinInt, -64, -1, 0, 1, 2, 64, math.MaxInt} {
				w.do(t, action{letter: 'R', blocks: a, n: n})
			}
			w.next(t)
			w.holds(t)
		}
	}
}

// P12.2, Take: owners that a block can't be taken for, and each that it can.
func TestTakeOwners(t *testing.T) {
	w := twinOf(t, fresh(128))
	for _, o := range slices.Concat(malformed, []api.Owner{unowned, fixedOwner}) {
		refused(t, w.s, action{letter: 'T', blocks: 128, limit: 128, o: o}, api.ErrArg)
		w.holds(t)
	}
	for i, o := range kinds {
		answers(t, w.s, action{letter: 'T', blocks: 128, limit: 64, o: o}, answer{n: 43 + i})
		answers(t, w.s, action{letter: 'O', n: 43 + i}, answer{o: o})
		w.p[43+i] = o
		w.holds(t)
	}
}

// goals returns goals about each edge of a limit, and far from it.
func goals(limit int) []int {
	return []int{
		math.MinInt, -1 << 32, -limit, -2, -1, 0, 1, 2, 42, 43, 44, 50, 61, 62, 63, 64, 65, 66, 67, 126, 127, 128, 129, 130,
		limit - 64, limit - 2, limit - 1, limit, limit + 1, limit + 50, 1 << 16, 1<<32 + 50, math.MaxInt,
	}
}

// P12.2: goals on Take and Find, until there is no space.
func TestGoals(t *testing.T) {
	for _, blocks := range []int{64, 128, 192, 768} {
		for _, limit := range []int{64, 128, blocks} {
			for _, in := range []int{1, 3, 1 << 30} {
				w := twinOf(t, mixed(blocks, blocks+limit, in))
				for i, goal := range slices.Repeat(goals(limit), 2) {
					w.do(t, action{letter: 'F', blocks: limit, goal: goal})
					w.do(t, action{letter: 'T', blocks: blocks, limit: limit, goal: goal, o: kinds[i%len(kinds)]})
				}
				w.holds(t)
			}
		}
	}
	w := twinOf(t, fresh(128))
	for i, c := range [][2]int{{70, 70}, {70, 71}, {0, 43}, {1, 44}, {63, 66}, {64, 67}, {127, 127}, {127, 45}, {128, 46}, {-1, 47}, {62, 62}, {62, 68}, {69, 69}, {69, 72}} {
		answers(t, w.s, action{letter: 'F', blocks: 128, goal: c[0]}, answer{n: c[1]})
		answers(t, w.s, action{letter: 'T', blocks: 128, limit: 128, goal: c[0], o: kinds[i%len(kinds)]}, answer{n: c[1]})
	}
}

// P12.2: the chapter's example.
func TestExample(t *testing.T) {
	w := twinOf(t, fresh(128))
	answers(t, w.s, action{letter: 'T', blocks: 128, limit: 128, goal: 70, o: kinds[4]}, answer{n: 70})
}

// takeAll takes until there is no space, and returns how many there were: each once, below the limit, and free ahead of it.
func takeAll(t *testing.T, w *twin, blocks, limit, goal int) int {
	t.Helper()
	taken := map[int]int{}
	for {
		a := action{letter: 'T', blocks: blocks, limit: limit, goal: goal, o: kinds[len(taken)%len(kinds)]}
		x := asked(w.s, a)
		if y := w.p.follow(a); x != y {
			t.Fatalf("%+v: %+v, not %+v", a, x, y)
		}
		if x.e != api.OK {
			refused(t, w.s, a, api.ErrNoSpace)
			return len(taken)
		}
		taken[x.n]++
		if taken[x.n] > 1 || x.n >= limit || fixedAt(x.n) {
			t.Fatalf("%+v: %d", a, x.n)
		}
		if len(taken)%10 == 0 {
			w.next(t)
		}
	}
}

// P12.2, Take until ErrNoSpace: as many as there is room for, also when blocks at the limit and beyond it are used.
func TestTakeAll(t *testing.T) {
	for _, c := range []struct{ blocks, limit, beyond, want int }{
		{64, 64, 0, 20}, {128, 128, 0, 82}, {192, 192, 0, 144}, {768, 768, 0, 702}, {128, 64, 0, 20}, {768, 64, 0, 20}, {192, 128, 0, 82}, {768, 704, 0, 640},
		{128, 64, 1, 19}, {128, 64, 19, 1}, {128, 64, 20, 0}, {128, 64, 21, 0}, {192, 64, 62, 0}, {192, 128, 62, 20}, {768, 64, 5, 15}, {256, 192, 30, 114},
	} {
		for _, goal := range []int{0, 50, c.limit - 1, c.limit} {
			w := twinOf(t, fresh(c.blocks))
			for i := range c.beyond {
				n := []int{c.limit + 2 + i, c.blocks - 1 - i}[goal%2]
				w.do(t, action{letter: 'S', n: n, o: kinds[i%len(kinds)]})
			}
			w.next(t)
			if got := takeAll(t, w, c.blocks, c.limit, goal); got != c.want {
				t.Fatalf("%+v, goal %d: %d", c, goal, got)
			}
			w.holds(t)
			answers(t, w.s, action{letter: 'U', blocks: c.blocks}, answer{n: c.beyond + c.want})
		}
	}
}

// P12.2, Take behind Give: what was given is taken again, also if it lies beyond the limit and only makes room.
func TestTakeBehindGive(t *testing.T) {
	w := twinOf(t, full(192))
	full := action{letter: 'T', blocks: 192, limit: 192, o: kinds[2]}
	refused(t, w.s, full, api.ErrNoSpace)
	for _, n := range []int{43, 62, 66, 127, 130, 191, 100} {
		for _, goal := range []int{0, n - 1, n, n + 1, 191} {
			answers(t, w.s, action{letter: 'G', n: n}, answer{})
			answers(t, w.s, action{letter: 'O', n: n}, answer{})
			full.goal = goal
			answers(t, w.s, full, answer{n: n})
			answers(t, w.s, action{letter: 'O', n: n}, answer{o: kinds[2]})
			refused(t, w.s, full, api.ErrNoSpace)
		}
	}
	w = twinOf(t, fresh(128))
	for n := 66; n < 86; n++ {
		w.do(t, action{letter: 'S', n: n, o: kinds[2]})
	}
	below := action{letter: 'T', blocks: 128, limit: 64, goal: 50, o: kinds[3]}
	refused(t, w.s, below, api.ErrNoSpace)
	for i := range 13 {
		w.do(t, action{letter: 'G', n: 66 + i})
		answers(t, w.s, below, answer{n: 50 + i})
		refused(t, w.s, below, api.ErrNoSpace)
	}
}

// P12.2, Give: fixed blocks, free ones, used ones of each kind, numbers that no block has.
func TestGive(t *testing.T) {
	for seed, blocks := range []int{64, 128, 192, 768} {
		w := twinOf(t, mixed(blocks, seed, 2))
		for _, n := range notBlocks {
			refused(t, w.s, action{letter: 'G', n: n}, api.ErrArg)
		}
		for n := -70; n < 840; n++ {
			w.do(t, action{letter: 'G', n: n})
			if n%60 == 0 {
				w.next(t)
				w.holds(t)
			}
		}
		if used, _ := Used(w.s, blocks); used != 0 {
			t.Fatalf("%d are used", used)
		}
		for n := range blocks {
			refused(t, w.s, action{letter: 'G', n: n}, api.ErrArg)
		}
	}
}

// P12.2: Find tells what Take takes, and takes nothing itself.
func TestFindBesideTake(t *testing.T) {
	for seed := range 40 {
		l := lots(seed)
		blocks := sizes[l.below(4)]
		w := twinOf(t, mixed(blocks, seed, 2+l.below(3)))
		for range 20 {
			limit, goal := sizes[l.below(blocks/64)], l.below(300)-20
			found, e := Find(w.s, limit, goal)
			again, _ := Find(w.s, limit, goal)
			x := asked(w.s, action{letter: 'T', blocks: blocks, limit: limit, goal: goal, o: kinds[0]})
			if e != api.OK || found != again || x.e == api.OK && x.n != found || x.e != api.OK && x.e != api.ErrNoSpace {
				t.Fatalf("Find(%d, %d): %d, %d, %v; Take: %+v", limit, goal, found, again, e, x)
			}
			if x.e == api.OK {
				w.p[x.n] = kinds[0]
			}
		}
		w.holds(t)
	}
	// Below the limit there is a free block, but no space.
	w := twinOf(t, fresh(128))
	for n := 66; n < 86; n++ {
		w.do(t, action{letter: 'S', n: n, o: kinds[0]})
	}
	answers(t, w.s, action{letter: 'F', blocks: 64, goal: 60}, answer{n: 60})
	refused(t, w.s, action{letter: 'T', blocks: 128, limit: 64, goal: 60, o: kinds[0]}, api.ErrNoSpace)
	w = twinOf(t, full(128))
	answers(t, w.s, action{letter: 'F', blocks: 128, goal: 60}, answer{n: -1})
	answers(t, w.s, action{letter: 'F', blocks: 64}, answer{n: -1})
}

// P12.2, Run: runs of each length, in all free groups, in full ones and in mixed ones.
func TestRun(t *testing.T) {
	w := twinOf(t, fresh(192))
	for _, c := range []struct{ limit, n, want int }{
		{64, 1, 43}, {64, 2, 43}, {64, 19, 43}, {64, 20, 43}, {64, 21, -1}, {128, 20, 43}, {128, 21, 66}, {128, 62, 66}, {128, 63, -1}, {192, 63, -1},
		{192, 62, 66}, {192, 64, -1}, {192, 192, -1}, {192, 1 << 32, -1}, {192, math.MaxInt, -1},
	} {
		answers(t, w.s, action{letter: 'R', blocks: c.limit, n: c.n}, answer{n: c.want})
	}
	for _, n := range []int{0, -1, -20, math.MinInt} {
		refused(t, w.s, action{letter: 'R', blocks: 64, n: n}, api.ErrArg)
	}
	for seed, blocks := range sizes {
		for _, in := range []int{1, 2, 3, 1 << 30} {
			w := twinOf(t, mixed(blocks, seed, in))
			for _, limit := range []int{64, blocks} {
				for n := range 70 {
					w.do(t, action{letter: 'R', blocks: limit, n: n})
				}
			}
			w.holds(t)
		}
	}
}

// P12.2, Run: runs at the edges: at the end of a group, ended by the fixed blocks of the next one, at the limit, none.
func TestRunEdges(t *testing.T) {
	for _, c := range []struct {
		free           []int
		limit, n, want int
	}{
		{[]int{125, 126, 127}, 192, 3, 125}, {[]int{125, 126, 127, 130}, 192, 4, -1}, {[]int{126, 127, 130, 131, 132}, 192, 3, 130},
		{[]int{61, 62, 66, 67}, 128, 3, -1}, {[]int{61, 62, 66, 67, 68}, 128, 3, 66}, {[]int{126, 127}, 128, 2, 126}, {[]int{126, 127}, 192, 3, -1},
		{[]int{190, 191}, 192, 2, 190}, {[]int{190, 191}, 192, 3, -1}, {[]int{190, 191}, 128, 1, -1}, {[]int{127, 191}, 128, 1, 127},
		{[]int{43, 45, 46, 48, 49, 50}, 64, 3, 48}, {[]int{43, 45, 46, 48, 49, 50}, 64, 2, 45}, {[]int{43, 45, 46, 48, 49, 50}, 64, 4, -1},
		{[]int{43}, 64, 1, 43}, {[]int{43}, 64, 2, -1}, {nil, 192, 1, -1}, {[]int{62}, 192, 1, 62}, {[]int{62}, 192, 2, -1},
	} {
		w := twinOf(t, full(192))
		for _, n := range c.free {
			w.do(t, action{letter: 'G', n: n})
		}
		answers(t, w.s, action{letter: 'R', blocks: c.limit, n: c.n}, answer{n: c.want})
	}
}

// P12.1, P12.2: of several errors the one that the chapter names first.
func TestErrorOrder(t *testing.T) {
	w := twinOf(t, full(128))
	// Full: what is wrong with the arguments comes ahead of that.
	good := action{letter: 'T', blocks: 128, limit: 128, o: kinds[0]}
	refused(t, w.s, good, api.ErrNoSpace)
	for _, change := range []func(a *action){
		func(a *action) { a.blocks = 127 }, func(a *action) { a.limit = 127 }, func(a *action) { a.limit = 192 }, func(a *action) { a.blocks = 64 },
		func(a *action) { a.o = unowned }, func(a *action) { a.o = fixedOwner }, func(a *action) { a.o = malformed[0] }, func(a *action) { a.blocks, a.limit = 0, 0 },
	} {
		a := good
		change(&a)
		refused(t, w.s, a, api.ErrArg)
	}
	// A group that is not clean comes ahead of no space, also if no block of it could be taken; arguments come ahead of it, as it is not read.
	does(t, "Put", w.s.Put(64, filled(1)), api.OK)
	refused(t, w.s, good, api.ErrClean)
	good.limit = 64
	refused(t, w.s, good, api.ErrClean)
	for _, a := range []action{
		{letter: 'S', n: 64, o: kinds[0]}, {letter: 'S', n: 70, o: fixedOwner}, {letter: 'S', n: 70, o: malformed[0]}, {letter: 'G', n: 64}, {letter: 'R', blocks: 128},
		{letter: 'T', blocks: 128, limit: 192, o: kinds[0]}, {letter: 'T', blocks: 128, limit: 128}, {letter: 'T', blocks: 128, limit: 128, o: malformed[0]},
	} {
		refused(t, w.s, a, api.ErrArg)
	}
	// Outside of a call, too: nothing is put.
	does(t, "End", w.s.End(false), api.OK)
	refused(t, w.s, good, api.ErrNoSpace)
	refused(t, w.s, action{letter: 'G', n: 64}, api.ErrArg)
}

// damage is a descriptor and a page that a group can't have.
type damage struct {
	what       string
	desc, page []byte
}

// damages returns what can be wrong with group g of the file system p.
func damages(p plain, g int) []damage {
	list := p[64*g : 64*g+64]
	desc, page := descOf(g, list), pageOf(list)
	all := []damage{
		{"a descriptor of zeros", make([]byte, 256), page}, {"a page of zeros", desc, make([]byte, 256)}, {"a page in the descriptor's place", page, page},
		{"a descriptor in the page's place", desc, desc}, {"another block", filled(5), page}, {"another block as a page", desc, filled(5)},
		{"both exchanged", page, desc}, {"both zeros", make([]byte, 256), make([]byte, 256)},
	}
	for i := range 256 {
		b := slices.Clone(desc)
		b[i] ^= 1 << (i % 8)
		all = append(all, damage{"a byte turned: " + strconv.Itoa(i), b, page})
	}
	for other := range 12 {
		if other != g {
			all = append(all, damage{"the number of group " + strconv.Itoa(other), descOf(other, list), page})
		}
	}
	for other := range len(p) / 64 {
		if other != g {
			theirs := p[64*other : 64*other+64]
			all = append(all, damage{"the page of another group", desc, pageOf(theirs)}, damage{"both of another group", descOf(other, theirs), pageOf(theirs)})
			if g == 0 || other == 0 {
				all = append(all, damage{"the page of another group, and its descriptor", descOf(g, theirs), pageOf(theirs)})
			}
		}
	}
	for i := range 64 {
		all = append(all, damagedAt(list, g, i)...)
	}
	return all
}

// damagedAt returns what can be wrong about block i of group g.
func damagedAt(list []api.Owner, g, i int) []damage {
	desc, page := descOf(g, list), pageOf(list)
	at := " at " + strconv.Itoa(i)
	var all []damage
	with := func(o api.Owner) []api.Owner {
		other := slices.Clone(list)
		other[i] = o
		return other
	}
	bad := with(malformed[i%len(malformed)])
	all = append(all, damage{"an owner not well formed" + at, desc, pageOf(bad)})
	turned := with(unowned)
	if list[i] == unowned {
		turned = with(kinds[i%len(kinds)])
	}
	all = append(all, damage{"a descriptor that is not consistent" + at, descOf(g, turned), page}, damage{"a page that is not consistent" + at, desc, pageOf(turned)})
	// Consistent, but those of no group with this number: a fixed block that is not Fixed, or an open one that is.
	odd := with(fixedOwner)
	if fixedAt(64*g + i) {
		odd = with(kinds[i%len(kinds)])
		all = append(all, damage{"a fixed block that is free" + at, descOf(g, turned), pageOf(turned)})
	}
	return append(all, damage{"the layout of no group" + at, descOf(g, odd), pageOf(odd)})
}

// reader is a call, and the groups that it reads.
type reader struct {
	action
	groups []int
}

// readers returns calls on a file system of 192 blocks.
func readers() []reader {
	var all []reader
	for g := range 3 {
		alone, first := []int{g}, []int{0, 1, 2}[:g+1]
		for _, n := range []int{64*g + 50, 64*g + 62, 64 * g} {
			all = append(all, reader{action{letter: 'O', n: n}, alone})
		}
		for _, n := range []int{64*g + 50, 64*g + 60} {
			for _, a := range []action{{letter: 'G', n: n}, {letter: 'S', n: n, o: kinds[1]}, {letter: 'S', n: n}} {
				all = append(all, reader{a, alone})
			}
		}
		blocks := 64*g + 64
		all = append(all, reader{action{letter: 'U', blocks: blocks}, first})
		for _, goal := range []int{0, 50, 64*g + 50, 500} {
			all = append(all, reader{action{letter: 'F', blocks: blocks, goal: goal}, first})
			for limit := 64; limit <= blocks; limit += 64 {
				all = append(all, reader{action{letter: 'T', blocks: blocks, limit: limit, goal: goal, o: kinds[1]}, first})
			}
		}
		for _, n := range []int{1, 3, 20, 1000} {
			all = append(all, reader{action{letter: 'R', blocks: blocks, n: n}, first})
		}
	}
	return all
}

// P12.1: a group that is not what it should be: ErrClean from each call that reads it, and nothing changed.
func TestNotClean(t *testing.T) {
	p := mixed(192, 3, 2)
	w := twinOf(t, slices.Clone(p))
	for g := range 3 {
		for _, x := range damages(p, g) {
			does(t, "Put", w.s.Put(descAt(g), x.desc), api.OK)
			does(t, "Put", w.s.Put(pageAt(g), x.page), api.OK)
			for _, r := range readers() {
				if !slices.Contains(r.groups, g) {
					continue
				}
				if got := asked(w.s, r.action); got != (answer{e: api.ErrClean}) {
					t.Fatalf("group %d, %s: %c %+v is %+v", g, x.what, r.letter, r.action, got)
				}
			}
			desc, _ := w.s.Get(descAt(g))
			page, _ := w.s.Get(pageAt(g))
			if !bytes.Equal(desc, x.desc) || !bytes.Equal(page, x.page) {
				t.Fatalf("group %d, %s: it is changed", g, x.what)
			}
			does(t, "End", w.s.End(false), api.OK)
			w.holds(t)
			does(t, "Begin", w.s.Begin(), api.OK)
		}
	}
}

// P12.1: with one group not clean, the calls that do not read it do all that they do, and it remains.
func TestCleanBeside(t *testing.T) {
	for g := range 3 {
		p := mixed(192, 3, 2)
		w := twinOf(t, slices.Clone(p))
		x := filled(9)
		does(t, "Put", w.s.Put(descAt(g), x), api.OK)
		for _, r := range readers() {
			if slices.Contains(r.groups, g) {
				refused(t, w.s, r.action, api.ErrClean)
			} else {
				w.do(t, r.action)
			}
		}
		if b, _ := w.s.Get(descAt(g)); !bytes.Equal(b, x) {
			t.Fatal("the group is changed")
		}
		does(t, "Put", w.s.Put(descAt(g), descOf(g, p[64*g:64*g+64])), api.OK)
		w.holds(t)
	}
}

// several returns calls of all kinds that return OK on a new file system of 128 blocks, but Give, for which 50 must be used.
func several() []action {
	return []action{
		{letter: 'O', n: 50}, {letter: 'S', n: 50, o: kinds[3]}, {letter: 'S', n: 50, o: kinds[3]}, {letter: 'U', blocks: 128}, {letter: 'F', blocks: 128, goal: 70},
		{letter: 'R', blocks: 128, n: 40}, {letter: 'T', blocks: 128, limit: 128, goal: 70, o: kinds[4]}, {letter: 'T', blocks: 128, limit: 64, o: kinds[5]},
		{letter: 'G', n: 50}, {letter: 'S', n: 50, o: kinds[6]}, {letter: 'S', n: 50}, {letter: 'S', n: 50}, {letter: 'S', n: 51, o: kinds[6]},
	}
}

// R1: a nil store, and a zero one, whatever the arguments.
func TestNil(t *testing.T) {
	for _, s := range []*store.Store{nil, {}} {
		for _, a := range several() {
			refused(t, s, a, api.ErrArg)
		}
		for _, n := range append(slices.Clone(notBlocks), 0, 1, 43, 50, 63, 64, 128, 767) {
			for _, o := range []api.Owner{unowned, fixedOwner, kinds[0], malformed[0]} {
				for _, letter := range []byte("OSUTGFR") {
					refused(t, s, action{letter, n, n, n, n, o}, api.ErrArg)
				}
			}
		}
	}
}

// P12.1: outside of a call what would change something returns ErrBusy, and changes nothing; all else goes as within.
func TestOutside(t *testing.T) {
	p := fresh(128)
	p[50] = kinds[3]
	w := twinOf(t, slices.Clone(p))
	does(t, "End", w.s.End(true), api.OK)
	for range 2 {
		for _, a := range several() {
			want := slices.Clone(p).follow(a)
			if a.changes() && want.e == api.OK {
				want = answer{e: api.ErrBusy}
			}
			answers(t, w.s, a, want)
			w.holds(t)
		}
	}
	if w.s.Dirty() != 0 || w.s.Within() {
		t.Fatal("a call outside changes something")
	}
}

// P12.1: what only asks changes no block, within a call and outside; what changes, changes its group's two blocks.
func TestDirty(t *testing.T) {
	w := twinOf(t, fresh(192))
	for _, a := range several() {
		if !a.changes() {
			w.do(t, a)
		}
	}
	w.next(t)
	if w.s.Dirty() != 0 {
		t.Fatalf("%d are changed", w.s.Dirty())
	}
	for i, n := range []int{50, 51, 130, 131} {
		w.do(t, action{letter: 'S', n: n, o: kinds[3]})
		w.next(t)
		if want := []int{2, 2, 4, 4}[i]; w.s.Dirty() != want {
			t.Fatalf("%d are changed, not %d", w.s.Dirty(), want)
		}
	}
	w.holds(t)
}

// P12.1: a store that is over returns ErrIO for each call.
func TestOver(t *testing.T) {
	w := twinOf(t, fresh(128))
	w.do(t, action{letter: 'S', n: 50, o: kinds[3]})
	w.d.SetFuse(0)
	does(t, "End", w.s.End(true), api.OK)
	does(t, "Sync", w.s.Sync(), api.ErrIO)
	for range 2 {
		for _, a := range several() {
			refused(t, w.s, a, api.ErrIO)
		}
	}
}

// P12.1: without power the first call that reads from the disk returns ErrIO, and the store is over.
func TestNoPower(t *testing.T) {
	for _, a := range several() {
		w := twinOf(t, fresh(128))
		w.d.SetFuse(0)
		w.d.Flush()
		refused(t, w.s, a, api.ErrIO)
		if !w.s.Over() {
			t.Fatalf("%c: not over", a.letter)
		}
		refused(t, w.s, action{letter: 'U', blocks: 64}, api.ErrIO)
	}
	// The page alone is on the disk, the descriptor was changed; and the other way round.
	for _, n := range []int{1, 2} {
		w := twinOf(t, fresh(64))
		does(t, "Put", w.s.Put(n, blocksOf(w.p)[n]), api.OK)
		w.d.SetFuse(0)
		w.d.Flush()
		refused(t, w.s, action{letter: 'O', n: 50}, api.ErrIO)
	}
}

// crowded returns a twin whose call has room for so many blocks more; those that it changed are as they were, but for zeros in the journal.
func crowded(t *testing.T, left int) *twin {
	t.Helper()
	p := fresh(128)
	p[50], p[70] = kinds[3], kinds[4]
	w := twinOf(t, p)
	for i := range room - left {
		does(t, "Put", w.s.Put(3+i, make([]byte, 256)), api.OK)
	}
	return w
}

// P12.1: a call that has no room left: the store's ErrNoSpace, what was changed before remains, and End(false) undoes it.
func TestNoRoom(t *testing.T) {
	for left := range 4 {
		for _, a := range []action{
			{letter: 'S', n: 51, o: kinds[1]}, {letter: 'S', n: 70}, {letter: 'S', n: 70, o: kinds[1]}, {letter: 'S', n: 70, o: kinds[4]}, {letter: 'G', n: 50}, {letter: 'G', n: 70},
			{letter: 'T', blocks: 128, limit: 128, goal: 60, o: kinds[1]}, {letter: 'T', blocks: 128, limit: 128, goal: 66, o: kinds[1]},
		} {
			w := crowded(t, left)
			was := slices.Clone(w.p)
			if left >= 2 {
				w.do(t, a)
				w.holds(t)
			} else {
				refused(t, w.s, a, api.ErrNoSpace)
				remains(t, w, a, left)
			}
			does(t, "End", w.s.End(false), api.OK)
			w.p = was
			w.holds(t)
		}
	}
	// The group's blocks are among those that the call has changed already.
	w := crowded(t, 2)
	for i := range 20 {
		w.do(t, action{letter: 'T', blocks: 128, limit: 128, goal: 66, o: kinds[i%len(kinds)]})
	}
	refused(t, w.s, action{letter: 'G', n: 50}, api.ErrNoSpace)
	w.holds(t)
	// One of the two alone is among them.
	for n := 1; n <= 2; n++ {
		w := crowded(t, 1)
		does(t, "Put", w.s.Put(n, blocksOf(w.p)[n]), api.OK)
		refused(t, w.s, action{letter: 'S', n: 51, o: kinds[1]}, api.ErrNoSpace)
		remains(t, w, action{letter: 'S', n: 51, o: kinds[1]}, n-1)
	}
}

// remains holds what a call leaves that had room for no block, or for one: the owners' page, which is put ahead of the descriptor.
func remains(t *testing.T, w *twin, a action, left int) {
	t.Helper()
	before := blocksOf(w.p)
	w.p.follow(a)
	after := blocksOf(w.p)
	for n := range before {
		want := before[n]
		if left == 1 && (n == 2 || n == 65) {
			want = after[n]
		}
		if b, e := w.s.Get(n); e != api.OK || !bytes.Equal(b, want) {
			t.Fatalf("%c, room for %d: block %d is %x, not %x", a.letter, left, n, b, want)
		}
	}
}

// P12.1: what a call changed before an error remains.
func TestRemains(t *testing.T) {
	w := twinOf(t, fresh(128))
	for _, a := range several() {
		w.do(t, a)
		for _, bad := range []action{
			{letter: 'O', n: 128}, {letter: 'S', n: 128, o: kinds[0]}, {letter: 'S', n: 50, o: fixedOwner}, {letter: 'G', n: 64}, {letter: 'U', blocks: 192}, {letter: 'F', blocks: 1},
			{letter: 'R', blocks: 64}, {letter: 'T', blocks: 64, limit: 128, o: kinds[0]}, {letter: 'T', blocks: 192, limit: 64, o: kinds[0]},
		} {
			refused(t, w.s, bad, api.ErrArg)
		}
		w.holds(t)
	}
	w.next(t)
	w.holds(t)
}

// P12.1, P12.2: what a call did is undone by End(false), and stays behind End(true), Sync and a crash.
func TestUndoneAndKept(t *testing.T) {
	w := twinOf(t, mixed(192, 5, 2))
	was := slices.Clone(w.p)
	change := func() {
		for i := range 12 {
			w.do(t, action{letter: 'T', blocks: 192, limit: 192, goal: 60 * i, o: kinds[i%len(kinds)]})
			w.do(t, action{letter: 'S', n: 43 + 13*i, o: kinds[i%len(kinds)]})
		}
		for n := range 192 {
			if n%5 == 0 {
				w.do(t, action{letter: 'G', n: n})
			}
		}
		w.holds(t)
	}
	for _, keep := range []bool{false, true} {
		change()
		changed := w.p
		does(t, "End", w.s.End(keep), api.OK)
		if !keep {
			w.p = slices.Clone(was)
		}
		w.holds(t)
		// Not durable: a crash undoes it either way.
		w.d.Crash([]bool{true})
		w.p = slices.Clone(was)
		w.open(t).holds(t)
		change()
		if !slices.Equal(changed, w.p) {
			t.Fatal("the same calls do something else")
		}
		does(t, "End", w.s.End(keep), api.OK)
		does(t, "Sync", w.s.Sync(), api.OK)
		w.d.Crash(nil)
		if !keep {
			w.p = slices.Clone(was)
		}
		w.open(t).holds(t)
	}
}

// P12.1: the power failing at each change of several calls and Syncs: ErrIO, and behind a crash all of a call is there or nothing.
func TestPowerFails(t *testing.T) {
	for _, keep := range [][]bool{nil, {true}, {true, false}, {false, true, true}} {
		for fuse, failed := 0, true; failed; fuse++ {
			w := twinOf(t, fresh(128))
			w.d.SetFuse(fuse)
			states := []plain{slices.Clone(w.p)}
			failed = false
			for i := 0; i < 6 && !failed; i++ {
				w.do(t, action{letter: 'T', blocks: 128, limit: 128, goal: 70 * (i % 2), o: kinds[i]})
				w.do(t, action{letter: 'S', n: 50 + i, o: kinds[i+1]})
				states = append(states, slices.Clone(w.p))
				does(t, "End", w.s.End(true), api.OK)
				if failed = w.s.Sync() != api.OK; failed {
					refused(t, w.s, several()[1], api.ErrIO)
					refused(t, w.s, several()[0], api.ErrIO)
				} else {
					does(t, "Begin", w.s.Begin(), api.OK)
				}
			}
			w.d.Crash(keep)
			w.open(t)
			w.p = states[len(states)-1]
			if n, _ := Used(w.s, 128); failed && n != w.p.count(128, true) {
				w.p = states[len(states)-2]
			}
			w.holds(t)
		}
	}
}

// draw returns a call, with arguments that are wrong now and then.
func (l *lots) draw(blocks int) action {
	n := l.below(blocks)
	if l.below(20) == 0 {
		n = notBlocks[l.below(len(notBlocks))]
	}
	size := func() int {
		if l.below(20) == 0 {
			return notSizes[l.below(len(notSizes))]
		}
		return sizes[l.below(blocks/64)]
	}
	owner := func() api.Owner {
		switch l.below(12) {
		case 0:
			return malformed[l.below(len(malformed))]
		case 1:
			return []api.Owner{unowned, fixedOwner}[l.below(2)]
		}
		return kinds[l.below(len(kinds))]
	}
	a := action{"OSSUTTTTTTGGGGFR"[l.below(16)], n, size(), size(), n, owner()}
	switch a.letter {
	case 'T':
		if l.below(4) > 0 {
			a.blocks = blocks
		}
	case 'R':
		a.n = l.below(30) - 1
	}
	return a
}

// P12.1, P12.2: long random sequences beside a plain list of owners, with calls that are undone, Syncs and crashes between.
func TestHistories(t *testing.T) {
	for seed := range 12 {
		l, blocks := lots(seed), []int{64, 128, 192, 320, 768}[seed%5]
		w := twinOf(t, mixed(blocks, seed, []int{1, 2, 5}[seed%3]))
		ahead, durable := slices.Clone(w.p), slices.Clone(w.p)
		for i := range 2500 {
			w.do(t, l.draw(blocks))
			if i%50 == 0 {
				w.holds(t)
			}
			switch k := l.below(60); {
			case k < 4:
				w.next(t)
				ahead = slices.Clone(w.p)
			case k < 6:
				does(t, "End", w.s.End(false), api.OK)
				does(t, "Begin", w.s.Begin(), api.OK)
				w.p = slices.Clone(ahead)
			case k < 8:
				does(t, "End", w.s.End(true), api.OK)
				does(t, "Sync", w.s.Sync(), api.OK)
				does(t, "Begin", w.s.Begin(), api.OK)
				ahead, durable = slices.Clone(w.p), slices.Clone(w.p)
			case k < 9:
				w.d.Crash([]bool{true, false})
				w.p, ahead = slices.Clone(durable), slices.Clone(durable)
				w.open(t)
			}
		}
		w.holds(t)
	}
}

// R2: two stores on two disks have nothing in common, and the same calls do the same.
func TestStoresApart(t *testing.T) {
	a, b := twinOf(t, fresh(128)), twinOf(t, fresh(128))
	for _, c := range several() {
		a.do(t, c)
		b.holds(t)
	}
	if a.s.End(true) != api.OK || !b.s.Within() {
		t.Fatal("one store ends the other's call")
	}
	for _, c := range several() {
		b.do(t, c)
	}
	if !slices.Equal(a.p, b.p) {
		t.Fatal("the same calls do something else")
	}
	a.holds(t)
	b.holds(t)
}
