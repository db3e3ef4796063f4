package table

import (
	"bytes"
	"math"
	"slices"
	"testing"

	"ashlar/api"
	"ashlar/dirent"
	"ashlar/geom"
	"ashlar/inode"
	"ashlar/pack"
	"ashlar/space"
	"ashlar/store"
	"ashlar/super"
	"ashlar/txn"
)

// room is the most blocks of a call, written out.
const room = 37

// formedSupers returns superblocks of each state that are well formed, with each field at its edges.
func formedSupers() []super.Super {
	table := freshTable()
	all := []super.Super{
		{Blocks: 64, Table: table}, {Blocks: 128, Table: table}, {Blocks: 704, Table: table}, {Blocks: 768, Table: table},
		{Blocks: 64, Table: [6]int{62, 61, 60, 59, 58, 57}}, {Blocks: 128, Table: [6]int{43, 62, 66, 127, 100, 50}},
		{Blocks: 768, Table: [6]int{767, 706, 703, 642, 66, 43}},
		{Blocks: 64, State: 1, Target: 128, Cursor: 1, Table: table}, {Blocks: 64, State: 1, Target: 128, Cursor: 2, Table: table},
		{Blocks: 128, State: 1, Target: 768, Cursor: 2, Table: table}, {Blocks: 704, State: 1, Target: 768, Cursor: 12, Table: table},
		{Blocks: 128, State: 2, Target: 64, Table: table}, {Blocks: 768, State: 2, Target: 64, Table: table}, {Blocks: 768, State: 2, Target: 704, Table: table},
		{Blocks: 128, State: 2, Target: 64, Table: [6]int{43, 62, 66, 127, 100, 50}},
	}
	for _, ino := range []int{1, 2, 46, 47} {
		for _, base := range []int{0, 1, 63, 128} {
			for _, cursor := range []int{0, 1, 128} {
				all = append(all, super.Super{Blocks: 128, State: 3, Ino: ino, Base: base, Cursor: cursor, Table: table})
			}
		}
	}
	return all
}

// malformedSupers returns superblocks that are not well formed, each in one field.
func malformedSupers() []super.Super {
	rests := super.Super{Blocks: 128, Table: freshTable()}
	grows, shrinks, tidies := rests, rests, rests
	grows.State, grows.Target, grows.Cursor = 1, 256, 3
	shrinks.Blocks, shrinks.State, shrinks.Target = 192, 2, 64
	tidies.State, tidies.Ino, tidies.Base, tidies.Cursor = 3, 5, 50, 3
	var all []super.Super
	with := func(s super.Super, field func(s *super.Super) *int, values ...int) {
		for _, n := range append(values, math.MinInt, -1<<32, -1, 1<<32, math.MaxInt) {
			bad := s
			*field(&bad) = n
			all = append(all, bad)
		}
	}
	blocks := func(s *super.Super) *int { return &s.Blocks }
	state := func(s *super.Super) *int { return &s.State }
	target := func(s *super.Super) *int { return &s.Target }
	cursor := func(s *super.Super) *int { return &s.Cursor }
	ino := func(s *super.Super) *int { return &s.Ino }
	base := func(s *super.Super) *int { return &s.Base }
	for _, s := range []super.Super{rests, grows, shrinks, tidies} {
		with(s, blocks, 0, 1, 63, 65, 127, 129, 767, 769, 832, 1<<16+128)
		with(s, state, 4, 5, 255, 256, 1<<8+s.State, 1<<32+s.State)
		for k := range s.Table {
			at := func(s *super.Super) *int { return &s.Table[k] }
			with(s, at, 0, 1, 2, 3, 42, 63, 64, 65, s.Blocks, s.Blocks+1, 767, 768, s.Table[(k+1)%6], s.Table[(k+5)%6], 1<<16+s.Table[k], 1<<32+s.Table[k])
		}
	}
	with(rests, state, 1, 2, 3)
	with(rests, target, 1, 64, 128, 192)
	with(rests, cursor, 1, 2)
	with(rests, ino, 1, 5)
	with(rests, base, 1, 50)
	with(grows, blocks, 256, 320, 768)
	with(grows, state, 0, 2, 3)
	with(grows, target, 0, 1, 64, 128, 255, 257, 832)
	with(grows, cursor, 0, 1, 5, 12)
	with(grows, ino, 1, 47)
	with(grows, base, 1, 128)
	with(shrinks, blocks, 64)
	with(shrinks, state, 0, 1, 3)
	with(shrinks, target, 0, 1, 63, 65, 192, 256)
	with(shrinks, cursor, 1, 3)
	with(shrinks, ino, 1, 47)
	with(shrinks, base, 1, 128)
	with(tidies, state, 0, 1, 2)
	with(tidies, target, 1, 64, 128, 192)
	with(tidies, cursor, 129, 768)
	with(tidies, ino, 0, 48, 1<<16+5)
	with(tidies, base, 129, 768)
	return append(all, super.Super{})
}

// P13.1, New: nil for nil, and for a store a file system on that, which New leaves as it is.
func TestNew(t *testing.T) {
	if New(nil) != nil {
		t.Fatal("New(nil) is not nil")
	}
	w := twinOf(t, fresh(64))
	f := New(w.f.S)
	if f == nil || f.S != w.f.S || f == New(w.f.S) || !f.S.Within() || f.S.Dirty() != 0 {
		t.Fatalf("New: %+v", f)
	}
	w.end(t, true)
	if New(w.f.S).S.Within() {
		t.Fatal("New begins a call")
	}
	w.f = &FS{S: f.S}
	w.do(t, action{call: "Super"})
	w.holds(t)
}

// P13.1, Super: of new file systems and others, within a call and outside.
func TestSuper(t *testing.T) {
	for seed, blocks := range []int{64, 128, 192, 704, 768} {
		for _, p := range []plain{fresh(blocks), scattered(blocks, seed)} {
			w := twinOf(t, p)
			for range 2 {
				w.do(t, action{call: "Super"})
				w.do(t, action{call: "Super"})
				w.holds(t)
				w.f.S.End(true)
			}
			if w.f.S.Dirty() != 0 {
				t.Fatal("Super changes something")
			}
		}
	}
	w := twinOf(t, fresh(128))
	answers(t, w.f, action{call: "Super"}, answer{s: super.Super{Blocks: 128, Table: freshTable()}})
}

// P13.1: Super reads block 0 alone: what the copy has is nothing to it.
func TestSuperIgnoresCopy(t *testing.T) {
	w := twinOf(t, fresh(128))
	other := super.Super{Blocks: 64, Table: freshTable()}
	for _, b := range [][]byte{filled(1), make([]byte, 256), superBytes(other)} {
		w.spoil(t, 63, b)
		for _, a := range []action{{call: "Super"}, {call: "Get", n: 1}, {call: "Make", n: 1}, {call: "Take", n: 100, o: used[2]}} {
			w.do(t, a)
		}
	}
}

// P13.1, SetSuper: superblocks that are well formed, whatever is in block 0 ahead of it; both blocks behind it.
func TestSetSuper(t *testing.T) {
	w := twinOf(t, fresh(128))
	for i, s := range formedSupers() {
		if !super.Formed(s) {
			t.Fatalf("%+v is not well formed", s)
		}
		switch i % 4 {
		case 1:
			w.spoil(t, 0, filled(i))
		case 2:
			w.spoil(t, 63, make([]byte, 256))
		case 3:
			w.next(t, true)
		}
		w.do(t, action{call: "SetSuper", s: s})
		answers(t, w.f, action{call: "Super"}, answer{s: s})
		w.holds(t)
	}
}

// P13.1, SetSuper: each field in turn so that it is not well formed: ErrArg, and nothing is written.
func TestSetSuperMalformed(t *testing.T) {
	w := twinOf(t, fresh(128))
	for _, s := range malformedSupers() {
		if super.Formed(s) {
			t.Fatalf("%+v is well formed", s)
		}
		refused(t, w.f, action{call: "SetSuper", s: s}, api.ErrArg)
		w.holds(t)
	}
	w.end(t, true)
	if w.f.S.Dirty() != 0 {
		t.Fatal("something is written")
	}
	for _, s := range malformedSupers() {
		refused(t, w.f, action{call: "SetSuper", s: s}, api.ErrArg)
	}
	w.holds(t)
}

// notSupers returns blocks that are no superblock's, made of one that is.
func notSupers(p plain) [][]byte {
	right := superBytes(p.s)
	seal := func(b []byte) []byte {
		b, _ = pack.Seal(b)
		return b
	}
	listed, _ := dirent.Encode([]dirent.Entry{{Ino: 5, Name: "ashlar 1"}})
	journal, _ := txn.Pack(txn.Txn{Seq: 1, Numbers: []int{0}, Data: [][]byte{right}})
	all := [][]byte{
		make([]byte, 256), filled(3), listed, journal[0], journal[2], seal(nil), seal(append([]byte("ashlar 2"), right[8:252]...)), seal(right[1:252]),
		seal(append(slices.Clone(right[:40]), 1)),
	}
	for i := range 256 {
		b := slices.Clone(right)
		b[i] ^= 1 << (i % 8)
		all = append(all, b)
		if i >= 31 && i < 252 {
			all = append(all, seal(b[:252]))
		}
	}
	for _, n := range []int{1, 2, 64, 65, 43, 44} {
		all = append(all, p.blocks()[n])
	}
	for _, s := range malformedSupers() {
		if fits(s) {
			all = append(all, superBytes(s))
		}
	}
	return all
}

// fits reports whether no field of s is cut in its bytes.
func fits(s super.Super) bool {
	for _, n := range append([]int{s.Blocks, s.Target, s.Cursor, s.Ino, s.Base}, s.Table[:]...) {
		if n < 0 || n >= 1<<16 {
			return false
		}
	}
	return s.State >= 0 && s.State < 1<<8
}

// P13.1, P13.2: block 0 is no superblock: ErrClean from each call that reads it, and nothing changed; what does not read it goes on.
func TestNoSuper(t *testing.T) {
	w := twinOf(t, fresh(128))
	for _, b := range notSupers(w.p) {
		w.spoil(t, 0, b)
		for _, a := range []action{
			{call: "Super"}, {call: "Get", n: 1}, {call: "Get", n: 47}, {call: "Put", n: 1}, {call: "Put", n: 47, i: inode.Inode{Kind: 1}}, {call: "Make", n: 1}, {call: "Make", n: 3},
			{call: "Take", n: 50, o: used[2]}, {call: "Take", n: -1, o: used[0]},
		} {
			refused(t, w.f, a, api.ErrClean)
		}
		if got, _ := w.f.S.Get(0); !bytes.Equal(got, b) {
			t.Fatal("block 0 is changed")
		}
		w.next(t, false)
		w.holds(t)
	}
	w.spoil(t, 0, filled(7))
	w.do(t, action{call: "Give", n: 43})
	answers(t, w.f, action{call: "Give", n: 43}, answer{e: api.ErrArg})
	w.do(t, action{call: "SetSuper", s: w.p.s})
	w.holds(t)
}

// P13.2: the chapter's example.
func TestExample(t *testing.T) {
	w := twinOf(t, fresh(64))
	answers(t, w.f, action{call: "Make", n: api.File}, answer{n: 2})
	answers(t, w.f, action{call: "Get", n: 2}, answer{i: inode.Inode{Kind: api.File}})
}

// P13.2, Get: numbers about each edge, in new file systems and others, within a call and outside.
func TestGet(t *testing.T) {
	for seed, blocks := range []int{64, 128, 768} {
		for _, p := range []plain{fresh(blocks), scattered(blocks, seed)} {
			w := twinOf(t, p)
			for range 2 {
				for _, n := range numbers {
					w.do(t, action{call: "Get", n: n})
				}
				for n := -60; n < 120; n++ {
					w.do(t, action{call: "Get", n: n})
				}
				w.holds(t)
				w.f.S.End(true)
			}
			if w.f.S.Dirty() != 0 {
				t.Fatal("Get changes something")
			}
		}
	}
	w := twinOf(t, fresh(64))
	answers(t, w.f, action{call: "Get", n: 1}, answer{i: inode.Inode{Kind: api.Dir, Links: 1}})
	for _, n := range []int{0, -1, 48, math.MinInt, math.MaxInt} {
		refused(t, w.f, action{call: "Get", n: n}, api.ErrArg)
	}
}

// P13.2: an inode is in the block of the table that the superblock says, wherever that is, and moves with it.
func TestTableMoves(t *testing.T) {
	w := twinOf(t, scattered(128, 4))
	for _, table := range [][6]int{{62, 43, 58, 47, 55, 50}, {43, 62, 58, 47, 55, 50}, {49, 60, 45, 53, 62, 58}, {58, 49, 60, 45, 53, 62}} {
		s := w.p.s
		s.Table = table
		w.do(t, action{call: "SetSuper", s: s})
		for n := range 50 {
			w.do(t, action{call: "Get", n: n})
		}
		for n := range table {
			w.do(t, action{call: "Put", n: 8*n + 3, i: inode.Inode{Kind: api.File, Size: n}})
		}
		for range 7 {
			w.do(t, action{call: "Make", n: api.Link})
		}
		w.holds(t)
	}
}

// mostSize says how long a file of that kind may be.
func mostSize(kind int) int { return []int{0, 35328, 35328, 200}[kind] }

// formedInodes returns inodes of each kind that are well formed, with each field at its edges.
func formedInodes() []inode.Inode {
	all := []inode.Inode{{}}
	for kind := 1; kind <= 3; kind++ {
		most := mostSize(kind)
		all = append(all, inode.Inode{Kind: kind}, inode.Inode{Kind: kind, Links: 1}, inode.Inode{Kind: kind, Links: 200}, inode.Inode{Kind: kind, Size: 1},
			inode.Inode{Kind: kind, Size: most}, inode.Inode{Kind: kind, Map: 1}, inode.Inode{Kind: kind, Map: 767})
		full := inode.Inode{Kind: kind, Links: 200, Size: most, Map: 767}
		for k := range full.Direct {
			i := inode.Inode{Kind: kind}
			i.Direct[k], full.Direct[k] = 767-k, 700+k
			all = append(all, i)
		}
		all = append(all, full)
	}
	return all
}

// malformedInodes returns inodes that are not well formed, each in one field.
func malformedInodes() []inode.Inode {
	var all []inode.Inode
	with := func(i inode.Inode, field func(i *inode.Inode) *int, values ...int) {
		for _, n := range append(values, math.MinInt, -1<<32, -1, 1<<16+1, 1<<32, 1<<32+1, math.MaxInt) {
			bad := i
			*field(&bad) = n
			all = append(all, bad)
		}
	}
	for kind := 1; kind <= 3; kind++ {
		most := mostSize(kind)
		i := inode.Inode{Kind: kind, Links: 1, Size: 100, Direct: [10]int{50, 51}, Map: 52}
		with(i, func(i *inode.Inode) *int { return &i.Kind }, 0, 4, 5, 255, 256, 256+kind)
		with(i, func(i *inode.Inode) *int { return &i.Links }, 201, 255, 256, 257)
		with(i, func(i *inode.Inode) *int { return &i.Size }, most+1, 35329, 1<<17)
		with(i, func(i *inode.Inode) *int { return &i.Map }, 768, 769, 1<<16)
		for k := range i.Direct {
			with(i, func(i *inode.Inode) *int { return &i.Direct[k] }, 768, 769, 1<<16)
		}
	}
	with(inode.Inode{}, func(i *inode.Inode) *int { return &i.Kind }, 4, 5, 255, 256, 257)
	with(inode.Inode{}, func(i *inode.Inode) *int { return &i.Links }, 1, 200)
	with(inode.Inode{}, func(i *inode.Inode) *int { return &i.Size }, 1, 200)
	with(inode.Inode{}, func(i *inode.Inode) *int { return &i.Map }, 1, 767)
	for k := range api.Direct {
		with(inode.Inode{}, func(i *inode.Inode) *int { return &i.Direct[k] }, 1, 767)
	}
	return all
}

// P13.2, Put then Get: numbers about each edge; the other inodes, and all other blocks, are as they were.
func TestPut(t *testing.T) {
	for seed, blocks := range []int{64, 128, 768} {
		w := twinOf(t, scattered(blocks, seed))
		all := formedInodes()
		for k, n := range numbers {
			for _, i := range []inode.Inode{all[(7*k+1)%len(all)], all[(7*k+5)%len(all)], {}} {
				w.do(t, action{call: "Put", n: n, i: i})
				w.do(t, action{call: "Get", n: n})
			}
			w.holds(t)
		}
		for k, i := range all {
			if !inode.Formed(i) {
				t.Fatalf("%+v is not well formed", i)
			}
			n := 1 + (11*k)%47
			answers(t, w.f, action{call: "Put", n: n, i: i}, answer{})
			answers(t, w.f, action{call: "Get", n: n}, answer{i: i})
			w.p.put(n, i)
			w.holds(t)
		}
	}
}

// P13.2, Put: each field in turn so that the inode is not well formed: ErrArg, and nothing is written.
func TestPutMalformed(t *testing.T) {
	w := twinOf(t, scattered(128, 3))
	for k, i := range malformedInodes() {
		if inode.Formed(i) {
			t.Fatalf("%+v is well formed", i)
		}
		for _, n := range []int{1 + k%47, 0, 48} {
			refused(t, w.f, action{call: "Put", n: n, i: i}, api.ErrArg)
		}
	}
	w.holds(t)
	w.end(t, true)
	if w.f.S.Dirty() != 0 {
		t.Fatal("something is written")
	}
	refused(t, w.f, action{call: "Put", n: 1, i: inode.Inode{Kind: 4}}, api.ErrArg)
}

// P13.2: what stands in the place of the inode 0 is left as it is, and never handed out.
func TestInodeNought(t *testing.T) {
	for _, nought := range []inode.Inode{{}, {Kind: api.File, Links: 3, Size: 9}} {
		p := fresh(64)
		p.cells[43] = cell{0: nought}
		w := twinOf(t, p)
		refused(t, w.f, action{call: "Get"}, api.ErrArg)
		refused(t, w.f, action{call: "Put", i: inode.Inode{Kind: 1}}, api.ErrArg)
		answers(t, w.f, action{call: "Make", n: api.Dir}, answer{n: 1})
		w.p.create(api.Dir)
		w.do(t, action{call: "Put", n: 2, i: inode.Inode{Kind: api.Link}})
		w.holds(t)
	}
}

// wrongKinds holds what is none of File, Dir and Link.
var wrongKinds = []int{math.MinInt, -1 << 32, -256, -3, -2, -1, 0, 4, 5, 255, 256, 257, 1<<16 + 1, 1 << 32, 1<<32 + 1, 1<<32 + 3, math.MaxInt}

// P13.2, Make: each kind, and what is none; everything else of what is made is 0.
func TestMakeKinds(t *testing.T) {
	w := twinOf(t, fresh(128))
	for k, kind := range wrongKinds {
		refused(t, w.f, action{call: "Make", n: kind}, api.ErrArg)
		w.holds(t)
		ino, made := 2+k, 1+k%3
		answers(t, w.f, action{call: "Make", n: made}, answer{n: ino})
		answers(t, w.f, action{call: "Get", n: ino}, answer{i: inode.Inode{Kind: made}})
		w.p.create(made)
		w.holds(t)
	}
	w.end(t, false)
	for _, kind := range wrongKinds {
		refused(t, w.f, action{call: "Make", n: kind}, api.ErrArg)
	}
}

// makeAll makes inodes until there is no space, and returns their numbers.
func makeAll(t *testing.T, w *twin) []int {
	t.Helper()
	var all []int
	for k := 0; ; k++ {
		a := action{call: "Make", n: 1 + k%3}
		x := asked(w.f, a)
		if y := w.p.follow(a); x != y {
			t.Fatalf("%+v: %+v, not %+v", a, x, y)
		}
		if x.e != api.OK {
			for kind := 1; kind <= 3; kind++ {
				refused(t, w.f, action{call: "Make", n: kind}, api.ErrNoSpace)
			}
			w.holds(t)
			return all
		}
		all = append(all, x.n)
	}
}

// P13.2, Make until ErrNoSpace: each free number once, the least one first; also behind a Put that frees some.
func TestMakeAll(t *testing.T) {
	for seed, blocks := range []int{64, 128, 192, 768} {
		for _, p := range []plain{fresh(blocks), scattered(blocks, seed)} {
			var free []int
			for n := 1; n < 48; n++ {
				if i, _ := p.get(n); i.Kind == api.Free {
					free = append(free, n)
				}
			}
			w := twinOf(t, p)
			if got := makeAll(t, w); !slices.Equal(got, free) {
				t.Fatalf("%v, not %v", got, free)
			}
			for _, freed := range [][]int{{47}, {1}, {30, 20}, {8, 7, 47, 40, 16}, {2, 1}} {
				for _, n := range freed {
					w.do(t, action{call: "Put", n: n})
				}
				slices.Sort(freed)
				if got := makeAll(t, w); !slices.Equal(got, freed) {
					t.Fatalf("%v, not %v", got, freed)
				}
			}
		}
	}
	if got := makeAll(t, twinOf(t, fresh(64))); len(got) != 46 || got[0] != 2 || got[45] != 47 {
		t.Fatalf("in a new file system: %v", got)
	}
}

// notCells returns blocks that have no inodes, made of one that has.
func notCells(p plain, n int) [][]byte {
	all := [][]byte{filled(1), filled(2), superBytes(p.s), p.blocks()[1], p.blocks()[65]}
	right := p.blocks()[n]
	for k := range 8 {
		// No kind, more links than there may be, a size, a block, and what follows the map.
		for _, at := range []int{0, 1, 5, 7, 25, 27, 28, 31} {
			b := slices.Clone(right)
			b[32*k+at] |= 0xf0
			all = append(all, b)
		}
	}
	return all
}

// P13.2, Get and Put: the block of the table is not one: ErrClean, also for the inodes of it that are in order, and nothing changed; those of other blocks go on.
func TestNoTable(t *testing.T) {
	w := twinOf(t, scattered(128, 7))
	for k, at := range w.p.s.Table {
		was := w.p.cells[at]
		for _, b := range notCells(w.p, at) {
			w.spoil(t, at, b)
			delete(w.p.cells, at)
			for n := 1; n < 48; n++ {
				w.do(t, action{call: "Get", n: n})
				if n/8 == k {
					refused(t, w.f, action{call: "Put", n: n}, api.ErrClean)
					refused(t, w.f, action{call: "Put", n: n, i: inode.Inode{Kind: 1}}, api.ErrClean)
					refused(t, w.f, action{call: "Put", n: n, i: inode.Inode{Kind: 4}}, api.ErrArg)
				}
			}
			w.do(t, action{call: "Put", n: 8*((k+1)%6) + 1, i: inode.Inode{Kind: 2}})
			w.do(t, action{call: "Take", n: 100, o: used[2]})
			w.do(t, action{call: "Give", n: at})
			if got, _ := w.f.S.Get(at); !bytes.Equal(got, b) {
				t.Fatal("the block is changed")
			}
			w.p.owners[at] = api.Owner{Ino: api.Table, At: uint16(k)}
			does(t, "SetOwner", space.SetOwner(w.f.S, at, w.p.owners[at]), api.OK)
			w.p.cells[at] = was
			does(t, "Put", w.f.S.Put(at, w.p.blocks()[at]), api.OK)
			w.next(t, true)
			w.holds(t)
		}
	}
}

// P13.2, Make: a block of the table is not one: ErrClean, if it has the first free inode or comes ahead of it; behind that it isn't read.
func TestMakeNoTable(t *testing.T) {
	for first := range 7 {
		p := fresh(128)
		for n := 1; n < 8*first; n++ {
			p.put(n, inode.Inode{Kind: api.File, Links: 1})
		}
		w := twinOf(t, p)
		for k, at := range p.s.Table {
			for _, b := range notCells(p, at) {
				want := answer{n: max(2, 8*first)}
				switch {
				case k <= first:
					want = answer{e: api.ErrClean}
				case first == 6:
					want = answer{e: api.ErrNoSpace}
				}
				w.spoil(t, at, b)
				answers(t, w.f, action{call: "Make", n: api.Link}, want)
				if got, _ := w.f.S.Get(at); !bytes.Equal(got, b) {
					t.Fatal("the block is changed")
				}
				w.next(t, false)
				w.holds(t)
			}
		}
	}
}

// P13.2, Take and Give: goals, and owners of each kind, in file systems at rest and in each state.
func TestTakeAndGive(t *testing.T) {
	owners := slices.Concat(used, malformed, []api.Owner{unowned, fixedOwner})
	table := freshTable()
	for seed, s := range []super.Super{
		{Blocks: 192, Table: table}, {Blocks: 128, Table: table}, {Blocks: 64, Table: table}, {Blocks: 64, State: 1, Target: 192, Cursor: 2, Table: table},
		{Blocks: 192, State: 2, Target: 128, Table: table}, {Blocks: 192, State: 2, Target: 64, Table: table}, {Blocks: 128, State: 2, Target: 64, Table: table},
		{Blocks: 128, State: 3, Ino: 4, Base: 66, Cursor: 9, Table: table},
	} {
		for _, p := range []plain{fresh(192), scattered(192, seed)} {
			w := twinOf(t, p)
			w.do(t, action{call: "SetSuper", s: s})
			for k, goal := range slices.Repeat(goals, 3) {
				w.do(t, action{call: "Take", n: goal, o: owners[k%len(owners)]})
				w.do(t, action{call: "Take", n: goal, o: used[k%len(used)]})
				w.do(t, action{call: "Give", n: goals[(k+20)%len(goals)]})
				w.holds(t)
			}
			for n := -70; n < 260; n++ {
				w.do(t, action{call: "Give", n: n})
				w.do(t, action{call: "Give", n: n})
			}
			w.holds(t)
		}
	}
}

// P13.2, Take: the limit is the superblock's, also when SetSuper makes it less and greater again.
func TestTakeLimit(t *testing.T) {
	w := twinOf(t, fresh(128))
	take := action{call: "Take", n: 100, o: used[2]}
	answers(t, w.f, take, answer{n: 100})
	s := w.p.s
	s.State, s.Target = 2, 64
	does(t, "SetSuper", w.f.SetSuper(s), api.OK)
	answers(t, w.f, take, answer{n: 49})
	take.n = 63
	answers(t, w.f, take, answer{n: 50})
	take.n = 62
	answers(t, w.f, take, answer{n: 62})
	// Seven of the twenty open blocks are the table's and the one at 100, three are taken: ten more.
	for range 10 {
		does(t, "Take", asked(w.f, take).e, api.OK)
	}
	refused(t, w.f, take, api.ErrNoSpace)
	answers(t, w.f, action{call: "Give", n: 100}, answer{})
	does(t, "Take", asked(w.f, take).e, api.OK)
	refused(t, w.f, take, api.ErrNoSpace)
	s.State, s.Target = 0, 0
	does(t, "SetSuper", w.f.SetSuper(s), api.OK)
	take.n = 127
	answers(t, w.f, take, answer{n: 127})
	answers(t, w.f, take, answer{n: 66})
	s.Blocks = 64
	does(t, "SetSuper", w.f.SetSuper(s), api.OK)
	refused(t, w.f, take, api.ErrNoSpace)
}

// P13.2: Take and Give beside those of layer 12, on another store.
func TestBesideSpace(t *testing.T) {
	for seed := range 8 {
		w, x := twinOf(t, scattered(192, seed)), twinOf(t, scattered(192, seed))
		l := lots(seed)
		for range 200 {
			blocks := 64 * (1 + l.below(3))
			s, limit := super.Super{Blocks: blocks, Table: freshTable()}, blocks
			if blocks > 64 && l.below(2) == 0 {
				limit -= 64
				s.State, s.Target = 2, limit
			}
			does(t, "SetSuper", w.f.SetSuper(s), api.OK)
			goal, o := l.below(230)-20, used[l.below(len(used))]
			n, e := w.f.Take(goal, o)
			if m, want := space.Take(x.f.S, blocks, limit, goal, o); n != m || e != want {
				t.Fatalf("Take(%d, %v): %d, %v, not %d, %v", goal, o, n, e, m, want)
			}
			n = l.below(230) - 20
			does(t, "Give", w.f.Give(n), space.Give(x.f.S, n))
		}
	}
}

// P13.1, P13.2: of several errors the one that the chapters name first.
func TestErrorOrder(t *testing.T) {
	p := fresh(128)
	for n := 1; n < 48; n++ {
		p.put(n, inode.Inode{Kind: api.Link, Links: 1})
	}
	for n := range p.owners {
		if p.owners[n] == unowned {
			p.owners[n] = used[2]
		}
	}
	w := twinOf(t, p)
	// None is left: what is wrong with the arguments comes ahead of that.
	refused(t, w.f, action{call: "Make", n: 1}, api.ErrNoSpace)
	refused(t, w.f, action{call: "Make", n: 4}, api.ErrArg)
	refused(t, w.f, action{call: "Take", o: used[2]}, api.ErrNoSpace)
	refused(t, w.f, action{call: "Take"}, api.ErrArg)
	// A block that is not what it should be comes ahead of no space.
	w.spoil(t, 48, filled(1))
	w.spoil(t, 64, filled(1))
	refused(t, w.f, action{call: "Make", n: 1}, api.ErrClean)
	refused(t, w.f, action{call: "Take", o: used[2]}, api.ErrClean)
	refused(t, w.f, action{call: "Take"}, api.ErrArg)
	refused(t, w.f, action{call: "Give", n: 100}, api.ErrClean)
	refused(t, w.f, action{call: "Give", n: 64}, api.ErrArg)
	// Arguments come ahead of blocks that aren't read for them; what Take is called with is in block 0.
	w.spoil(t, 0, filled(1))
	for _, a := range []action{
		{call: "Get"}, {call: "Get", n: 48}, {call: "Put"}, {call: "Put", n: 48}, {call: "Put", n: 1, i: inode.Inode{Kind: 4}}, {call: "Make"}, {call: "Make", n: 4},
		{call: "SetSuper"}, {call: "Give", n: 64}, {call: "Give", n: -1},
	} {
		refused(t, w.f, a, api.ErrArg)
	}
	for _, o := range []api.Owner{used[2], unowned, fixedOwner, malformed[0]} {
		refused(t, w.f, action{call: "Take", o: o}, api.ErrClean)
	}
}

// P13.1: blocks that the superblock has and the disk has not: the error of the store.
func TestBeyondTheDisk(t *testing.T) {
	w := twinOf(t, fresh(64))
	s := super.Super{Blocks: 768, Table: [6]int{43, 44, 66, 767, 45, 46}}
	w.do(t, action{call: "SetSuper", s: s})
	w.do(t, action{call: "Get", n: 15})
	w.do(t, action{call: "Get", n: 32})
	for _, n := range []int{16, 23, 24, 31} {
		refused(t, w.f, action{call: "Get", n: n}, api.ErrArg)
		refused(t, w.f, action{call: "Put", n: n}, api.ErrArg)
	}
	for n := 2; n < 16; n++ {
		answers(t, w.f, action{call: "Make", n: api.File}, answer{n: n})
		w.p.create(api.File)
	}
	refused(t, w.f, action{call: "Make", n: api.File}, api.ErrArg)
	refused(t, w.f, action{call: "Take", n: 50, o: used[2]}, api.ErrArg)
	w.do(t, action{call: "Give", n: 43})
	w.holds(t)
}

// several returns calls of all kinds that return OK on a new file system of 128 blocks.
func several() []action {
	s := super.Super{Blocks: 128, State: 2, Target: 64, Table: freshTable()}
	return []action{
		{call: "Super"}, {call: "Get", n: 1}, {call: "Make", n: 1}, {call: "Put", n: 47, i: inode.Inode{Kind: 2, Links: 1}}, {call: "Take", n: 100, o: used[2]}, {call: "SetSuper", s: s},
		{call: "Get", n: 47}, {call: "Take", n: 100, o: used[3]}, {call: "Give", n: 43}, {call: "Put", n: 1}, {call: "Make", n: 3}, {call: "Super"}, {call: "Make", n: 2},
	}
}

// R1: a nil file system, one on a nil store, and one on a store without a disk, whatever the arguments.
func TestNil(t *testing.T) {
	var none *FS
	for _, f := range []*FS{none, {}, New(nil)} {
		for _, a := range several() {
			refused(t, f, a, api.ErrArg)
		}
		for _, n := range slices.Concat(numbers, goals, wrongKinds) {
			for _, call := range []string{"Super", "SetSuper", "Get", "Put", "Make", "Take", "Give"} {
				for k, o := range []api.Owner{unowned, fixedOwner, used[0], malformed[0]} {
					refused(t, f, action{call, n, formedSupers()[k], formedInodes()[k], o}, api.ErrArg)
				}
				refused(t, f, action{call, n, super.Super{}, inode.Inode{Kind: -1}, unowned}, api.ErrArg)
			}
		}
	}
	for _, a := range several() {
		want := api.ErrArg
		if a.call == "SetSuper" {
			want = api.ErrBusy // the store has no call
		}
		refused(t, &FS{S: &store.Store{}}, a, want)
	}
}

// P13.1: outside of a call what would change something returns ErrBusy, and changes nothing; all else goes as within.
func TestOutside(t *testing.T) {
	w := twinOf(t, fresh(128))
	w.end(t, true)
	for range 2 {
		for _, a := range several() {
			p := w.p.clone()
			want := p.follow(a)
			if a.changes() && want.e == api.OK {
				want = answer{e: api.ErrBusy}
			}
			answers(t, w.f, a, want)
			w.holds(t)
		}
	}
	// Nothing is put where another error comes first.
	for _, a := range []action{
		{call: "SetSuper"}, {call: "Put"}, {call: "Put", n: 1, i: inode.Inode{Kind: 4}}, {call: "Make"}, {call: "Take"}, {call: "Give", n: 50}, {call: "Get"},
	} {
		refused(t, w.f, a, api.ErrArg)
	}
	if w.f.S.Dirty() != 0 || w.f.S.Within() {
		t.Fatal("a call outside changes something")
	}
	w.d.Damage(43, filled(1))
	refused(t, w.f, action{call: "Make", n: 1}, api.ErrClean)
	refused(t, w.f, action{call: "Put", n: 1}, api.ErrClean)
	w.d.Damage(0, filled(1))
	refused(t, w.f, action{call: "Take", n: 100, o: used[2]}, api.ErrClean)
	refused(t, w.f, action{call: "SetSuper", s: w.p.s}, api.ErrBusy)
	w = twinOf(t, fresh(128))
	makeAll(t, w)
	w.end(t, true)
	refused(t, w.f, action{call: "Make", n: 1}, api.ErrNoSpace)
}

// P13.1: what only asks changes no block; what changes, changes just those that it must.
func TestDirty(t *testing.T) {
	for _, c := range []struct {
		action
		want int
	}{
		{action{call: "Super"}, 0}, {action{call: "Get", n: 1}, 0}, {action{call: "SetSuper", s: super.Super{Blocks: 64, Table: freshTable()}}, 2},
		{action{call: "Put", n: 20, i: inode.Inode{Kind: 1}}, 1}, {action{call: "Make", n: 1}, 1}, {action{call: "Take", n: 100, o: used[2]}, 2}, {action{call: "Give", n: 43}, 2},
	} {
		w := twinOf(t, fresh(128))
		w.do(t, c.action)
		w.end(t, true)
		if w.f.S.Dirty() != c.want {
			t.Fatalf("%s: %d are changed, not %d", c.call, w.f.S.Dirty(), c.want)
		}
		w.holds(t)
	}
}

// P13.1: a store that is over returns ErrIO for each call whose arguments are right.
func TestOver(t *testing.T) {
	w := twinOf(t, fresh(128))
	w.do(t, action{call: "Make", n: 1})
	w.end(t, true)
	w.d.SetFuse(0)
	does(t, "Sync", w.f.S.Sync(), api.ErrIO)
	for range 2 {
		for _, a := range several() {
			refused(t, w.f, a, api.ErrIO)
		}
		refused(t, w.f, action{call: "Take"}, api.ErrIO)
	}
}

// darken lets the power fail.
func darken(w *twin) {
	w.d.SetFuse(0)
	w.d.Flush()
}

// P13.1: without power the first call that reads from the disk returns ErrIO, and the store is over; whichever of its blocks is on the disk alone.
func TestNoPower(t *testing.T) {
	for _, a := range several() {
		if a.call == "SetSuper" {
			continue
		}
		w := twinOf(t, fresh(128))
		darken(w)
		refused(t, w.f, a, api.ErrIO)
		if !w.f.S.Over() {
			t.Fatalf("%s: not over", a.call)
		}
		refused(t, w.f, action{call: "Super"}, api.ErrIO)
	}
	for _, c := range []struct {
		action
		there []int
	}{
		{action{call: "Get", n: 1}, []int{0}}, {action{call: "Put", n: 1}, []int{0}}, {action{call: "Make", n: 1}, []int{0}}, {action{call: "Get", n: 47}, []int{0, 43, 44}},
		{action{call: "Take", o: used[2]}, []int{0}}, {action{call: "Take", o: used[2]}, []int{0, 1, 2}}, {action{call: "Take", o: used[2]}, []int{0, 1, 2, 64}},
		{action{call: "Get", n: 1}, []int{43}}, {action{call: "Give", n: 43}, []int{1}}, {action{call: "Take", o: used[2]}, []int{1, 2, 64, 65}},
	} {
		w := twinOf(t, fresh(128))
		for _, n := range c.there {
			w.spoil(t, n, w.p.blocks()[n])
		}
		darken(w)
		refused(t, w.f, c.action, api.ErrIO)
		if !w.f.S.Over() {
			t.Fatalf("%s: not over", c.call)
		}
	}
	// What reads nothing from the disk meets no error yet.
	w := twinOf(t, fresh(128))
	w.do(t, action{call: "SetSuper", s: w.p.s})
	darken(w)
	w.do(t, action{call: "SetSuper", s: several()[5].s})
	w.do(t, action{call: "Super"})
	w.end(t, true)
	does(t, "Sync", w.f.S.Sync(), api.ErrIO)
}

// crowded returns a twin whose call has room for so many blocks more; what it changed is in the journal.
func crowded(t *testing.T, left int) *twin {
	t.Helper()
	w := twinOf(t, fresh(128))
	for i := range room - left {
		w.spoil(t, 3+i, make([]byte, 256))
	}
	return w
}

// P13.1: a call that has no room left: the store's ErrNoSpace, what was changed before remains, and End(false) undoes it.
func TestNoRoom(t *testing.T) {
	for _, c := range []struct {
		action
		needs, firstPut int
	}{
		{action{call: "SetSuper", s: several()[5].s}, 2, 0}, {action{call: "Put", n: 20, i: inode.Inode{Kind: 3}}, 1, 0}, {action{call: "Make", n: 2}, 1, 0},
		{action{call: "Take", n: 100, o: used[2]}, 2, 65}, {action{call: "Give", n: 43}, 2, 2},
	} {
		for left := range 4 {
			w := crowded(t, left)
			was := w.p.clone()
			if left >= c.needs {
				w.do(t, c.action)
				w.holds(t)
			} else {
				refused(t, w.f, c.action, api.ErrNoSpace)
				w.p.follow(c.action)
				remains(t, w, was, c.firstPut, left > 0)
			}
			w.next(t, false)
			w.p = was
			w.holds(t)
		}
	}
	// The block is among those that the call has changed already.
	w := crowded(t, 1)
	for n := 2; n < 8; n++ {
		w.do(t, action{call: "Make", n: 1})
		w.do(t, action{call: "Put", n: n, i: inode.Inode{Kind: 2}})
	}
	refused(t, w.f, action{call: "Make", n: 1}, api.ErrNoSpace)
	refused(t, w.f, action{call: "Put", n: 8, i: inode.Inode{Kind: 1}}, api.ErrNoSpace)
	w.do(t, action{call: "Get", n: 8})
	w.holds(t)
}

// remains holds that all blocks are as they were, but for the one that is put first, if there was room for it.
func remains(t *testing.T, w *twin, was plain, first int, put bool) {
	t.Helper()
	before, after := was.blocks(), w.p.blocks()
	for n := range before {
		want := before[n]
		if n == first && put {
			want = after[n]
		}
		if b, e := w.f.S.Get(n); e != api.OK || !bytes.Equal(b, want) {
			t.Fatalf("block %d is %x, not %x", n, b, want)
		}
	}
}

// P13.1: what was changed before an error remains.
func TestRemains(t *testing.T) {
	w := twinOf(t, fresh(128))
	for _, a := range several() {
		w.do(t, a)
		for _, bad := range []action{
			{call: "SetSuper"}, {call: "Get"}, {call: "Put"}, {call: "Put", n: 2, i: inode.Inode{Links: 1}}, {call: "Make"}, {call: "Take"}, {call: "Give", n: 64}, {call: "Give", n: 768},
		} {
			refused(t, w.f, bad, api.ErrArg)
		}
		w.holds(t)
	}
	w.next(t, true)
	w.holds(t)
}

// changeAll makes all kinds of changes.
func changeAll(t *testing.T, w *twin) {
	t.Helper()
	for k := range 12 {
		w.do(t, action{call: "Make", n: 1 + k%3})
		w.do(t, action{call: "Put", n: 1 + 4*k, i: formedInodes()[k]})
		w.do(t, action{call: "Take", n: 17 * k, o: used[k%len(used)]})
		w.do(t, action{call: "Give", n: 43 + 13*k})
	}
	s := w.p.s
	s.State, s.Target = 2, 64
	s.Table = [6]int{49, 60, 45, 53, 62, 58}
	w.do(t, action{call: "SetSuper", s: s})
	for k := range 4 {
		w.do(t, action{call: "Make", n: 1 + k%3})
		w.do(t, action{call: "Take", n: 17 * k, o: used[k%len(used)]})
	}
	w.holds(t)
}

// P13.1, P13.2: what a call did is undone by End(false), and stays behind End(true), Sync and a crash.
func TestUndoneAndKept(t *testing.T) {
	w := twinOf(t, scattered(192, 5))
	was := w.p.clone()
	for _, keep := range []bool{false, true} {
		changeAll(t, w)
		changed := w.p
		w.end(t, keep)
		if !keep {
			w.p = was.clone()
		}
		w.holds(t)
		w.do(t, action{call: "Super"})
		w.do(t, action{call: "Get", n: 1})
		// Not durable: a crash undoes it either way.
		w.d.Crash([]bool{true})
		w.p = was.clone()
		w.open(t).holds(t)
		changeAll(t, w)
		if !changed.equal(w.p) {
			t.Fatal("the same calls do something else")
		}
		w.end(t, keep)
		does(t, "Sync", w.f.S.Sync(), api.OK)
		w.d.Crash(nil)
		if !keep {
			w.p = was.clone()
		}
		w.open(t).holds(t)
	}
}

// P13.1: the power failing at each change of several calls and Syncs: ErrIO, and behind a crash all of a call is there or nothing.
func TestPowerFails(t *testing.T) {
	for _, keep := range [][]bool{nil, {true}, {true, false}, {false, true, true}} {
		for fuse, failed := 0, true; failed; fuse++ {
			w := twinOf(t, fresh(128))
			w.d.SetFuse(fuse)
			before := w.p.clone()
			failed = false
			for k := 0; k < 4 && !failed; k++ {
				before = w.p.clone()
				s := w.p.s
				s.Blocks = []int{64, 128}[k%2]
				for _, a := range []action{
					{call: "SetSuper", s: s}, {call: "Make", n: 1}, {call: "Put", n: 47 - 5*k, i: inode.Inode{Kind: 2, Size: k}}, {call: "Take", n: 66, o: used[k]}, {call: "Give", n: 43 + k},
				} {
					w.do(t, a)
				}
				w.end(t, true)
				if failed = w.f.S.Sync() != api.OK; failed {
					refused(t, w.f, action{call: "Super"}, api.ErrIO)
					refused(t, w.f, action{call: "Make", n: 1}, api.ErrIO)
					refused(t, w.f, action{call: "SetSuper", s: s}, api.ErrIO)
				} else {
					does(t, "Begin", w.f.S.Begin(), api.OK)
				}
			}
			w.d.Crash(keep)
			w.open(t)
			if failed && w.odd() >= 0 {
				w.p = before
			}
			w.holds(t)
			w.do(t, action{call: "Super"})
			w.do(t, action{call: "Make", n: 3})
		}
	}
}

// super draws a superblock, mostly one that is well formed and has inodes in the blocks of its table.
func (l *lots) super(p plain) super.Super {
	if l.below(4) == 0 {
		bad := malformedSupers()
		return bad[l.below(len(bad))]
	}
	s := super.Super{Blocks: 64 * (1 + l.below(len(p.owners)/64)), Table: p.s.Table}
	if l.below(3) == 0 {
		left := places()
		if l.below(4) == 0 {
			left = append(left, 51) // has no inodes
		}
		for k := range s.Table {
			n := l.below(len(left))
			s.Table[k] = left[n]
			left = slices.Delete(left, n, n+1)
		}
	}
	switch groups := s.Blocks / 64; l.below(4) {
	case 1:
		if groups < 12 {
			s.State, s.Target = 1, s.Blocks+64*(1+l.below(12-groups))
			s.Cursor = groups + l.below(s.Target/64-groups+1)
		}
	case 2:
		if groups > 1 {
			s.State, s.Target = 2, 64*(1+l.below(groups-1))
		}
	case 3:
		s.State, s.Ino, s.Base, s.Cursor = 3, 1+l.below(47), l.below(s.Blocks+1), l.below(s.Blocks+1)
	}
	return s
}

// draw returns a call, with arguments that are wrong now and then.
func (l *lots) draw(p plain) action {
	pick := func(list []int) int { return list[l.below(len(list))] }
	owner := func() api.Owner {
		if l.below(10) == 0 {
			bad := slices.Concat(malformed, []api.Owner{unowned, fixedOwner})
			return bad[l.below(len(bad))]
		}
		return used[l.below(len(used))]
	}
	switch k := l.below(40); {
	case k < 2:
		return action{call: "Super"}
	case k < 4:
		return action{call: "SetSuper", s: l.super(p)}
	case k < 12:
		if l.below(8) == 0 {
			return action{call: "Get", n: pick(numbers)}
		}
		return action{call: "Get", n: l.below(50)}
	case k < 20:
		a := action{call: "Put", n: l.below(50)}
		switch l.below(6) {
		case 0:
			bad := malformedInodes()
			a.i = bad[l.below(len(bad))]
		case 1, 2, 3:
			a.i = l.inode()
		}
		return a
	case k < 26:
		if l.below(8) == 0 {
			return action{call: "Make", n: pick(wrongKinds)}
		}
		return action{call: "Make", n: 1 + l.below(3)}
	case k < 34:
		if l.below(4) == 0 {
			return action{call: "Take", n: pick(goals), o: owner()}
		}
		return action{call: "Take", n: l.below(len(p.owners)), o: owner()}
	}
	if l.below(8) == 0 {
		return action{call: "Give", n: pick(goals)}
	}
	return action{call: "Give", n: l.below(len(p.owners))}
}

// P13.1, P13.2: long random sequences beside a plain file system, with calls that are undone, Syncs and crashes between.
func TestHistories(t *testing.T) {
	for seed := range 12 {
		l := lots(seed)
		w := twinOf(t, scattered([]int{64, 128, 192, 320, 768}[seed%5], seed))
		ahead, durable := w.p.clone(), w.p.clone()
		for i := range 2500 {
			w.do(t, l.draw(w.p))
			if i%50 == 0 {
				w.holds(t)
			}
			switch k := l.below(60); {
			case k < 6:
				w.next(t, true)
				ahead = w.p.clone()
			case k < 8:
				w.next(t, false)
				w.p = ahead.clone()
			case k < 10:
				w.end(t, true)
				does(t, "Sync", w.f.S.Sync(), api.OK)
				does(t, "Begin", w.f.S.Begin(), api.OK)
				ahead, durable = w.p.clone(), w.p.clone()
			case k < 11:
				w.d.Crash([]bool{true, false})
				w.p, ahead = durable.clone(), durable.clone()
				w.open(t)
			}
		}
		w.holds(t)
	}
}

// R3: what was handed in and what was handed out are as they were, whatever is done afterwards.
func TestApartFromCalls(t *testing.T) {
	w := twinOf(t, fresh(128))
	s, i := several()[5].s, inode.Inode{Kind: 1, Direct: [10]int{50, 51}, Map: 60}
	sameS, sameI := s, i
	does(t, "SetSuper", w.f.SetSuper(s), api.OK)
	does(t, "Put", w.f.Put(9, i), api.OK)
	gotS, _ := w.f.Super()
	gotI, _ := w.f.Get(9)
	s.Table[0], i.Direct[0] = 99, 99
	answers(t, w.f, action{call: "Super"}, answer{s: sameS})
	answers(t, w.f, action{call: "Get", n: 9}, answer{i: sameI})
	does(t, "SetSuper", w.f.SetSuper(super.Super{Blocks: 64, Table: [6]int{62, 61, 60, 59, 58, 57}}), api.OK)
	w.next(t, false)
	does(t, "Put", w.f.Put(9, inode.Inode{}), api.OK)
	if gotS != sameS || gotI != sameI {
		t.Fatal("what was handed out is changed")
	}
}

// R2: two file systems on two stores have nothing in common, and the same calls do the same; two on one store are one.
func TestStoresApart(t *testing.T) {
	a, b := twinOf(t, fresh(128)), twinOf(t, fresh(128))
	for _, c := range several() {
		a.do(t, c)
		b.holds(t)
	}
	for _, c := range several() {
		b.do(t, c)
	}
	if !a.p.equal(b.p) {
		t.Fatal("the same calls do something else")
	}
	a.holds(t)
	b.holds(t)
	other := &twin{d: a.d, f: New(a.f.S), p: a.p}
	other.do(t, action{call: "Make", n: 1})
	other.do(t, action{call: "Put", n: 1, i: inode.Inode{Kind: 2}})
	a.p = other.p
	a.do(t, action{call: "Get", n: 1})
	a.holds(t)
}

// The layout that the tests write out is that of layer 4, and what they fill blocks with is no inodes.
func TestPlainLayout(t *testing.T) {
	for n := range 768 {
		if fixedAt(n) != geom.Fixed(n) {
			t.Fatalf("block %d", n)
		}
	}
	for n := range 768 {
		if _, e := inode.Decode(filled(n)); e == api.OK {
			t.Fatalf("the filled block %d has inodes", n)
		}
	}
}
