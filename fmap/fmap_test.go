package fmap

import (
	"bytes"
	"math"
	"slices"
	"testing"

	"ashlar/api"
	"ashlar/geom"
	"ashlar/group"
	"ashlar/inode"
	"ashlar/pack"
	"ashlar/space"
	"ashlar/store"
	"ashlar/super"
	"ashlar/table"
)

// P14.2: the chapter's example.
func TestExample(t *testing.T) {
	w := twinOf(t, fresh(64))
	answers(t, w.f, action{call: "Map", ino: 2}, answer{n: 49})
	answers(t, w.f, action{call: "Map", ino: 2, i: 11}, answer{n: 51})
	if n, e := space.Used(w.f.S, 64); n != 9 || e != api.OK {
		t.Fatalf("%d blocks are used, %v", n, e)
	}
	for n, want := range map[int]api.Owner{49: {Ino: 2}, 50: {Ino: 2, At: 0xffff}, 51: {Ino: 2, At: 11}, 52: {}} {
		if o, e := space.Owner(w.f.S, n); o != want || e != api.OK {
			t.Fatalf("block %d is %v's, %v", n, o, e)
		}
	}
}

// P14.1: each call with numbers of inodes about each edge, and of free ones; what is refused changes nothing.
func TestInodeNumbers(t *testing.T) {
	for seed, blocks := range []int{64, 128, 768} {
		w := twinOf(t, scattered(blocks, seed, 40))
		for k, ino := range inos {
			for _, call := range six {
				a := action{call, ino, (k * 5) % 138, 50 + k}
				ok := w.p.is(ino) == api.OK
				was := w.picture()
				if !ok {
					refused(t, w.f, a, api.ErrArg)
					w.unchanged(t, was)
				}
				w.do(t, a)
			}
			w.holds(t)
			w.next(t, true)
		}
	}
	w := twinOf(t, fresh(64))
	for _, ino := range []int{math.MinInt, -1, 0, 4, 46, 48, math.MaxInt} {
		for _, call := range six {
			refused(t, w.f, action{call, ino, 0, 50}, api.ErrArg)
		}
	}
	for _, ino := range inUse {
		for _, call := range []string{"Map", "Set", "At", "Cut", "Blocks", "Pieces"} {
			if x := asked(w.f, action{call, ino, 0, 50 + ino}); x.e != api.OK {
				t.Fatalf("%s of %d: %v", call, ino, x.e)
			}
			w.p.follow(action{call, ino, 0, 50 + ino})
			if call == "At" {
				does(t, "Set", Set(w.f, ino, 0, 49), api.OK)
				w.p.set(ino, 0, 49)
			}
		}
	}
	w.holds(t)
}

// P14.1: At, Set and Map with numbers of blocks about each edge: beyond the ends ErrArg, and nothing is changed.
func TestBlockNumbers(t *testing.T) {
	for seed := range 4 {
		w := twinOf(t, scattered(192, seed, 60))
		for _, i := range indices {
			for _, call := range []string{"At", "Set", "Map", "At", "Set"} {
				for _, ino := range []int{2, 3} {
					if i < 0 || i > 137 {
						was := w.picture()
						refused(t, w.f, action{call, ino, i, 100}, api.ErrArg)
						w.unchanged(t, was)
					}
					n, _ := w.p.at(ino, i)
					w.do(t, action{call, ino, i, max(n, 1)})
				}
			}
			w.next(t, true)
			w.holds(t)
		}
	}
}

// P14.1, At: each block of each inode, within a call and outside; nothing is changed.
func TestAt(t *testing.T) {
	for seed, blocks := range []int{64, 128, 768, 768} {
		w := twinOf(t, scattered(blocks, seed, 30*seed+10))
		was := w.picture()
		for range 2 {
			for _, ino := range inUse {
				for i := -3; i < 142; i++ {
					w.do(t, action{call: "At", ino: ino, i: i})
				}
			}
			w.f.S.End(true)
		}
		w.unchanged(t, was)
		if w.f.S.Dirty() != 0 {
			t.Fatal("At changes something")
		}
	}
	w := twinOf(t, with(128, 50, 70, 0, 72, 0, 0, 0, 0, 0, 0, 79, 80, 0, 90))
	for i, want := range []int{70, 0, 72, 0, 0, 0, 0, 0, 0, 79, 80, 0, 90, 0} {
		answers(t, w.f, action{call: "At", ino: 2, i: i}, answer{n: want})
		answers(t, w.f, action{call: "At", ino: 8, i: i}, answer{})
	}
	answers(t, w.f, action{call: "At", ino: 2, i: 137}, answer{})
	answers(t, w.f, action{call: "At", ino: 8, i: 137}, answer{})
}

// long returns the locations of a file whose 138 blocks are all there, in the groups from the second one on.
func long() []int {
	var list []int
	for n := 64; len(list) < 138; n++ {
		if !fixedAt(n) {
			list = append(list, n)
		}
	}
	return list
}

// P14.1, Set: each block, and numbers about each edge; owners, other blocks and the bytes of both are as they were.
func TestSet(t *testing.T) {
	w := twinOf(t, with(256, 50, long()...))
	for i := range 138 {
		for k := range 3 {
			w.do(t, action{"Set", 2, i, locations[(3*i+k)%len(locations)]})
		}
		w.do(t, action{call: "At", ino: 2, i: i})
		w.holds(t)
	}
	for _, i := range []int{0, 9, 10, 11, 137} {
		where := 43
		if i >= 10 {
			where = 50
		}
		for _, n := range locations {
			want := api.OK
			if n < 1 || n > 767 {
				want = api.ErrArg
			}
			at := asked(w.f, action{call: "At", ino: 2, i: i}).n
			was := w.picture()
			answers(t, w.f, action{"Set", 2, i, n}, answer{e: want})
			if want == api.OK {
				at = n
				was[where], _ = w.f.S.Get(where)
			}
			w.unchanged(t, was)
			answers(t, w.f, action{call: "At", ino: 2, i: i}, answer{n: at})
			w.p.set(2, i, n)
		}
	}
	w.holds(t)
	w.end(t, true)
	if w.f.S.Dirty() != 2 {
		t.Fatalf("%d blocks are changed", w.f.S.Dirty())
	}
}

// P14.1, Set: a hole is refused, among the direct blocks and in the map, with a map and without.
func TestSetHole(t *testing.T) {
	for _, at := range []int{0, 50} {
		p := with(128, at, 70, 0, 72)
		if at > 0 {
			p.place(2, 12, 80)
			p.place(2, 136, 81)
		}
		w := twinOf(t, p)
		was := w.picture()
		for i := range 138 {
			if n, _ := p.at(2, i); n == 0 {
				for _, n := range []int{1, 50, 70, 71, 127, 767} {
					refused(t, w.f, action{"Set", 2, i, n}, api.ErrArg)
				}
			}
		}
		w.unchanged(t, was)
		w.end(t, true)
		if w.f.S.Dirty() != 0 {
			t.Fatal("something is written")
		}
		refused(t, w.f, action{"Set", 2, 1, 50}, api.ErrArg)
	}
}

// P14.1, Blocks: up to the last one that is no hole.
func TestBlocks(t *testing.T) {
	holes := func(n int, list ...int) []int { return append(make([]int, n), list...) }
	for k, c := range []struct {
		at   int
		list []int
	}{
		{0, nil}, {50, nil}, {0, []int{70}}, {0, holes(1, 70)}, {0, holes(9, 70)}, {0, []int{70, 0, 0, 72, 0, 71}}, {50, []int{70, 0, 0, 72, 0, 71}},
		{50, holes(10, 70)}, {50, holes(11, 70)}, {50, holes(137, 70)}, {50, []int{70, 0, 0, 0, 0, 0, 0, 0, 0, 0, 71}}, {50, append(holes(136, 90), 91)}, {50, long()},
		{0, long()[:10]}, {50, long()[:10]}, {50, long()[:11]}, {50, long()[:137]}, {50, append(holes(20, 70), holes(60, 69)...)},
	} {
		w := twinOf(t, with(256, c.at, c.list...))
		was := w.picture()
		for range 2 {
			answers(t, w.f, action{call: "Blocks", ino: 2}, answer{list: c.list})
			w.do(t, action{call: "Blocks", ino: 2})
			w.do(t, action{call: "Blocks", ino: 3})
			w.f.S.End(true)
		}
		w.unchanged(t, was)
		if w.f.S.Dirty() != 0 {
			t.Fatalf("%d: Blocks changes something", k)
		}
	}
}

// P14.1, Pieces: what parts them is a hole, and a block that lies elsewhere.
func TestPieces(t *testing.T) {
	run := func(from, n int) []int {
		list := make([]int, n)
		for k := range list {
			list[k] = from + k
		}
		return list
	}
	holes := func(n int) []int { return make([]int, n) }
	for _, c := range []struct {
		at, want int
		list     []int
	}{
		// Two blocks at each group's begin are fixed: what goes on in the next one is parted.
		{0, 0, nil}, {50, 0, nil}, {0, 1, run(70, 1)}, {0, 1, run(70, 10)}, {0, 1, append(holes(3), run(70, 4)...)}, {50, 1, run(70, 40)}, {50, 1, append(holes(130), run(70, 8)...)},
		{0, 2, []int{70, 0, 71}}, {0, 2, []int{70, 0, 72}}, {0, 2, []int{70, 72}}, {0, 2, []int{71, 70}}, {0, 4, []int{73, 72, 71, 70}}, {0, 2, []int{70, 71, 70 + 64, 71 + 64}},
		{0, 3, []int{70, 71, 0, 0, 72, 73, 90}}, {0, 5, []int{70, 0, 71, 0, 72, 0, 73, 0, 74}}, {50, 2, append(run(70, 10), run(81, 3)...)}, {50, 2, append(run(80, 10), run(70, 10)...)},
		{50, 2, append(append(run(70, 10), 0), run(80, 2)...)}, {50, 2, append(append(run(70, 9), 0), run(79, 2)...)}, {50, 3, long()[:135]}, {50, 1, append(holes(9), run(70, 2)...)},
	} {
		w := twinOf(t, with(256, c.at, 0))
		for i, n := range c.list {
			// Pieces asks no owners: laid so, blocks may be anywhere, and at one place twice.
			if n > 0 {
				w.p.locate(2, i, n)
			}
		}
		w.spoil(t, 43, w.p.blocks()[43])
		w.spoil(t, 50, w.p.blocks()[50])
		for range 2 {
			answers(t, w.f, action{call: "Pieces", ino: 2}, answer{n: c.want})
			w.do(t, action{call: "Pieces", ino: 2})
			w.do(t, action{call: "Pieces", ino: 3})
			w.next(t, true)
		}
		w.holds(t)
	}
}

// P14.1, Pieces: locations that Set made: block 1 behind a hole, the same one twice, the greatest one.
func TestPiecesOfNumbers(t *testing.T) {
	w := twinOf(t, with(128, 50, 70, 71, 72, 0, 73, 0, 0, 0, 0, 74, 75, 0, 76))
	for _, c := range []struct{ i, n, want int }{
		{4, 1, 4}, {0, 1, 5}, {1, 2, 5}, {2, 3, 4}, {1, 1, 6}, {2, 1, 6}, {9, 766, 7}, {10, 767, 6}, {12, 704, 6}, {12, 1, 6}, {10, 766, 7}, {4, 4, 7}, {9, 767, 7}, {10, 1, 7},
	} {
		w.do(t, action{"Set", 2, c.i, c.n})
		answers(t, w.f, action{call: "Pieces", ino: 2}, answer{n: c.want})
		w.do(t, action{call: "Pieces", ino: 2})
	}
}

// P14.2, Map of what is no hole: its location, and nothing is changed, also outside of a call, and where no block is free.
func TestMapTaken(t *testing.T) {
	p := with(256, 50, long()...)
	p.occupy()
	w := twinOf(t, p)
	was := w.picture()
	for range 2 {
		for i := range 138 {
			answers(t, w.f, action{call: "Map", ino: 2, i: i}, answer{n: long()[i]})
		}
		w.f.S.End(true)
	}
	w.unchanged(t, was)
	if w.f.S.Dirty() != 0 {
		t.Fatal("something is written")
	}
	// Whosever the block is, and be it none that the file system has.
	w = twinOf(t, with(64, 50, 51, 52, 0, 0, 0, 0, 0, 0, 0, 0, 53))
	for _, n := range []int{1, 43, 50, 54, 63, 64, 767} {
		for _, i := range []int{1, 10} {
			w.do(t, action{"Set", 2, i, n})
			answers(t, w.f, action{call: "Map", ino: 2, i: i}, answer{n: n})
		}
	}
	w.holds(t)
}

// P14.2, Map of each hole, with a map and without, behind a block and behind a hole: owners, bytes and locations are those of the plain file system.
func TestMapHoles(t *testing.T) {
	layouts := []plain{fresh(128), with(128, 50), with(128, 0, 70, 0, 72, 0, 0, 0, 0, 0, 0, 80), with(128, 100, 70, 71, 72, 0, 0, 0, 0, 0, 0, 80, 0, 90, 0, 92)}
	for seed := range 3 {
		layouts = append(layouts, scattered(192, seed, 60))
	}
	for _, p := range layouts {
		w := twinOf(t, p)
		for _, ino := range []int{2, 3} {
			for i := range 138 {
				w.do(t, action{call: "Map", ino: ino, i: i})
				w.holds(t)
				w.do(t, action{call: "At", ino: ino, i: i})
				w.next(t, false)
				w.p = p.clone()
			}
		}
		w.holds(t)
	}
}

// P14.2, Map: just what must be changed is: of the inode the location and the map, the block's owner, and its bytes.
func TestMapAlone(t *testing.T) {
	p := with(128, 0, 70)
	w := twinOf(t, p)
	answers(t, w.f, action{call: "Map", ino: 2, i: 137}, answer{n: 50})
	node, _ := w.f.Get(2)
	want := p.nodes[2]
	want.Map = 49
	if node != want {
		t.Fatalf("%+v, not %+v", node, want)
	}
	b, _ := w.f.S.Get(49)
	if last := append(make([]byte, 254), 50, 0); !bytes.Equal(b, last) {
		t.Fatalf("the map is %x", b)
	}
	w.end(t, true)
	// The owners' page and the descriptor, the map, the block of the table, the block.
	if w.f.S.Dirty() != 5 {
		t.Fatalf("%d are changed", w.f.S.Dirty())
	}
	does(t, "Sync", w.f.S.Sync(), api.OK)
	does(t, "Begin", w.f.S.Begin(), api.OK)
	answers(t, w.f, action{call: "Map", ino: 2, i: 1}, answer{n: 71})
	want.Direct[1] = 71
	if node, _ := w.f.Get(2); node != want {
		t.Fatalf("%+v, not %+v", node, want)
	}
	w.end(t, true)
	if w.f.S.Dirty() != 4 {
		t.Fatalf("%d are changed", w.f.S.Dirty())
	}
}

// P14.2, Map: the block's bytes are zero, and a map has no locations, whatever was there before: a file's bytes, a map, anything.
func TestMapZero(t *testing.T) {
	zero := make([]byte, 256)
	p := with(64, 50, 51, 52, 53, 0, 0, 0, 0, 0, 0, 0, 54, 55)
	w := twinOf(t, p)
	for n := 49; n < 63; n++ {
		if n != 50 {
			w.spoil(t, n, filled(n+5))
		}
	}
	does(t, "Cut", Cut(w.f, 2, 0), api.OK)
	for _, ino := range []int{3, 8} {
		for _, i := range []int{0, 137, 1, 10, 11, 12} {
			n, e := Map(w.f, ino, i)
			b, _ := w.f.S.Get(n)
			if e != api.OK || !bytes.Equal(b, zero) {
				t.Fatalf("Map(%d, %d): %d, %v, %x", ino, i, n, e, b)
			}
			w.spoil(t, n, filled(n))
		}
		list, _ := Blocks(w.f, ino)
		if got := []int{list[2], list[9], list[13], list[136]}; !slices.Equal(got, make([]int, 4)) {
			t.Fatalf("holes of %d: %v", ino, got)
		}
	}
	// What was there ahead of a call is back when that is undone, and zero behind the next one.
	w.next(t, false)
	answers(t, w.f, action{call: "Map", ino: 8, i: 10}, answer{n: 56})
	if b, _ := w.f.S.Get(56); !bytes.Equal(b, zero) {
		t.Fatalf("block 56 is %x", b)
	}
	if b, _ := w.f.S.Get(49); !bytes.Equal(b, append([]byte{56, 0}, zero[2:]...)) {
		t.Fatalf("the map is %x", b)
	}
}

// P14.2, Map: the goals: a block goes behind the one ahead of it, or to the first free one; a map to the first free one.
func TestMapGoals(t *testing.T) {
	shrinks := func(p plain) plain {
		p.s.State, p.s.Target = 2, 64
		return p
	}
	without := func(p plain, used ...int) plain {
		for _, n := range used {
			p.owners[n] = api.Owner{Ino: 47, At: 1}
		}
		return p
	}
	for _, c := range []struct {
		p    plain
		i    int
		want int
	}{
		{fresh(128), 0, 49}, {fresh(128), 1, 49}, {fresh(128), 9, 49}, {with(128, 0, 70), 1, 71}, {with(128, 0, 70), 2, 49}, {with(128, 0, 0, 70), 0, 49}, {with(128, 0, 100, 71), 2, 72},
		// What is behind the block is used, fixed, or beyond the end.
		{without(with(128, 0, 70), 71), 1, 72}, {without(with(128, 0, 70), 71, 72, 73), 1, 74}, {with(128, 0, 62), 1, 66}, {with(128, 0, 127), 1, 49}, {without(with(128, 0, 127), 49, 50), 1, 51},
		{without(with(128, 0, 125), 126, 127), 1, 49}, {with(128, 0, 58, 61), 2, 62}, {with(192, 0, 127), 1, 130}, {shrinks(with(128, 0, 70)), 1, 49}, {shrinks(with(128, 0, 62)), 1, 49},
		// The first one of the map goes behind the last direct one; the map itself is taken ahead of it, and anywhere.
		{with(128, 55, 0, 0, 0, 0, 0, 0, 0, 0, 0, 100), 10, 101}, {with(128, 55, 0, 0, 0, 0, 0, 0, 0, 0, 0, 100, 0, 110), 10, 101}, {with(128, 55, 0, 0, 0, 0, 0, 0, 0, 0, 0, 100), 11, 49},
		{with(128, 0, 0, 0, 0, 0, 0, 0, 0, 0, 0, 100), 10, 101}, {with(128, 0, 0, 0, 0, 0, 0, 0, 0, 0, 0, 100), 11, 50}, {fresh(128), 10, 50}, {fresh(128), 137, 50},
		{with(128, 0, 0, 0, 0, 0, 0, 0, 0, 0, 0, 61), 10, 62}, {with(128, 55, 0, 0, 0, 0, 0, 0, 0, 0, 0, 0, 0, 0, 90), 13, 91}, {with(128, 55, 0, 0, 0, 0, 0, 0, 0, 0, 0, 0, 0, 0, 90), 11, 49},
		{with(128, 0, 0, 0, 0, 0, 0, 0, 0, 0, 0, 48), 10, 50}, {with(128, 55, 0, 0, 0, 0, 0, 0, 0, 0, 0, 54), 10, 56},
	} {
		w := twinOf(t, c.p)
		answers(t, w.f, action{call: "Map", ino: 2, i: c.i}, answer{n: c.want})
		if o, e := space.Owner(w.f.S, c.want); o != (api.Owner{Ino: 2, At: uint16(c.i)}) || e != api.OK {
			t.Fatalf("block %d is %v's, %v", c.want, o, e)
		}
		at := c.p.nodes[2].Map
		w.p.follow(action{call: "Map", ino: 2, i: c.i})
		w.holds(t)
		if c.i >= 10 && at == 0 {
			if node, _ := w.f.Get(2); node.Map != 49 {
				t.Fatalf("the map is at %d", node.Map)
			}
		}
	}
	// The goal is what stands as the location, whatever that is.
	w := twinOf(t, with(128, 0, 70))
	for _, c := range [][2]int{{99, 100}, {1, 49}, {63, 66}, {127, 49}, {767, 49}, {126, 127}, {100, 101}} {
		w.do(t, action{"Set", 2, 0, c[0]})
		answers(t, w.f, action{call: "Map", ino: 2, i: 1}, answer{n: c[1]})
		w.p.follow(action{call: "Map", ino: 2, i: 1})
		w.do(t, action{call: "Cut", ino: 2, i: 1})
	}
}

// P14.2, Map: the free blocks are in other groups, and just below the limit.
func TestMapGroups(t *testing.T) {
	for _, free := range [][]int{{66, 67}, {127, 130, 191}, {700, 766, 767}, {62, 704 + 2, 767}, {49, 767}} {
		for _, at := range []int{0, 10, 9, 137} {
			p := with(768, 0, 50, 51)
			p.occupy(free...)
			w := twinOf(t, p)
			for k := range 4 {
				w.do(t, action{call: "Map", ino: 2, i: (at + k) % 138})
				w.holds(t)
			}
			s := p.s
			s.State, s.Target = 2, 704
			does(t, "SetSuper", w.f.SetSuper(s), api.OK)
			w.p.s = s
			w.do(t, action{call: "Map", ino: 3, i: 20})
			w.do(t, action{call: "Cut", ino: 2, i: 1})
			w.do(t, action{call: "Map", ino: 3, i: 20})
			w.holds(t)
		}
	}
	// Blocks beyond the limit are not taken, however many are free there; the used ones there count.
	p := with(192, 0, 150, 151)
	p.occupy(60, 61, 62, 100, 101, 102, 103)
	p.s.State, p.s.Target = 2, 64
	w := twinOf(t, p)
	refused(t, w.f, action{call: "Map", ino: 3}, api.ErrNoSpace)
	p = with(192, 0, 150, 151)
	p.s.State, p.s.Target = 2, 64
	w = twinOf(t, p)
	for i := range 11 {
		answers(t, w.f, action{call: "Map", ino: 3, i: i}, answer{n: 49 + i + i/10})
		w.p.follow(action{call: "Map", ino: 3, i: i})
	}
	// Six of the twenty open ones are the table's, two are used beyond, eleven and a map are taken: none is left, with two that are free.
	refused(t, w.f, action{call: "Map", ino: 3, i: 20}, api.ErrNoSpace)
	w.holds(t)
}

// P14.2, Map: one block is free and two are wanted: the map remains, and behind End(false) all is as it was.
func TestMapOneFree(t *testing.T) {
	for _, i := range []int{10, 11, 100, 137} {
		p := with(128, 0, 70, 71, 0, 0, 0, 0, 0, 0, 0, 72)
		p.occupy(90)
		w := twinOf(t, p)
		was := w.picture()
		refused(t, w.f, action{call: "Map", ino: 2, i: i}, api.ErrNoSpace)
		w.p.follow(action{call: "Map", ino: 2, i: i})
		w.holds(t)
		if node, _ := w.f.Get(2); node.Map != 90 {
			t.Fatalf("the map is at %d", node.Map)
		}
		if o, _ := space.Owner(w.f.S, 90); o != (api.Owner{Ino: 2, At: 0xffff}) {
			t.Fatalf("the map is %v's", o)
		}
		if b, _ := w.f.S.Get(90); !bytes.Equal(b, make([]byte, 256)) {
			t.Fatalf("the map is %x", b)
		}
		for _, again := range []int{i, 10, 2} {
			refused(t, w.f, action{call: "Map", ino: 2, i: again}, api.ErrNoSpace)
		}
		w.do(t, action{call: "At", ino: 2, i: i})
		w.do(t, action{call: "Blocks", ino: 2})
		w.do(t, action{call: "Map", ino: 2, i: 9})
		w.holds(t)
		w.next(t, false)
		w.unchanged(t, was)
		w.p = p.clone()
		// One that is wanted is there.
		w.do(t, action{call: "Map", ino: 2, i: 2})
		refused(t, w.f, action{call: "Map", ino: 2, i: i}, api.ErrNoSpace)
		refused(t, w.f, action{call: "Map", ino: 2, i: 3}, api.ErrNoSpace)
		w.holds(t)
		w.next(t, false)
		w.p = p.clone()
		// The map that remains without locations has room for one, when a block is free again; Cut frees it.
		w.do(t, action{call: "Map", ino: 2, i: i})
		w.do(t, action{call: "Cut", ino: 3})
		does(t, "Give", w.f.Give(73), api.OK)
		w.p.free(73)
		w.do(t, action{call: "Map", ino: 2, i: i})
		w.holds(t)
		w.do(t, action{call: "Cut", ino: 2, i: i})
		if o, _ := space.Owner(w.f.S, 90); o != unowned {
			t.Fatal("the map is not free")
		}
		w.holds(t)
	}
}

// P14.2, Map: no block is free: nothing is changed, and what needs none goes on.
func TestMapNoneFree(t *testing.T) {
	p := with(128, 0, 70, 71)
	p.occupy()
	w := twinOf(t, p)
	was := w.picture()
	for i := 2; i < 138; i++ {
		refused(t, w.f, action{call: "Map", ino: 2, i: i}, api.ErrNoSpace)
	}
	refused(t, w.f, action{call: "Map", ino: 2, i: 138}, api.ErrArg)
	refused(t, w.f, action{call: "Map", ino: 4, i: 2}, api.ErrArg)
	w.unchanged(t, was)
	w.end(t, true)
	if w.f.S.Dirty() != 0 {
		t.Fatal("something is written")
	}
	refused(t, w.f, action{call: "Map", ino: 2, i: 2}, api.ErrNoSpace)
}

// cuts holds where files are cut.
var cuts = []int{0, 1, 2, 5, 8, 9, 10, 11, 12, 50, 127, 128, 136, 137, 138, 139, 256, 1 << 16, 1 << 32, 1<<32 + 1, math.MaxInt}

// P14.2, Cut: files of all kinds, cut anywhere; what is cut is free, what is ahead of it is as it was, and of the inode only locations and map change.
func TestCut(t *testing.T) {
	layouts := []plain{
		fresh(256), with(256, 60), with(256, 0, 70, 71, 72), with(256, 0, 70, 0, 72, 0, 0, 0, 0, 0, 0, 74), with(256, 60, 0, 0, 0, 0, 0, 0, 0, 0, 0, 0, 80), with(256, 60, long()...),
		with(256, 60, 70, 0, 0, 0, 0, 0, 0, 0, 0, 75, 0, 80, 81, 0, 82), with(256, 60, append(make([]int, 137), 90)...), with(256, 60, append(append([]int{70}, make([]int, 49)...), 90, 91)...),
		with(256, 0, long()[:10]...), with(256, 60, long()[:11]...), with(256, 200, append(make([]int, 127), 150, 140, 130)...),
	}
	for seed := range 4 {
		layouts = append(layouts, scattered(768, seed, 100))
	}
	for _, p := range layouts {
		w := twinOf(t, p)
		for _, from := range cuts {
			for _, ino := range []int{2, 3} {
				cutOnce(t, w, ino, from)
				w.next(t, false)
				w.p = p.clone()
			}
		}
		w.holds(t)
		for _, from := range []int{math.MinInt, -1 << 32, -138, -2, -1} {
			was := w.picture()
			refused(t, w.f, action{call: "Cut", ino: 2, i: from}, api.ErrArg)
			w.unchanged(t, was)
		}
	}
}

// cutOnce cuts a file, and holds each of its blocks.
func cutOnce(t *testing.T, w *twin, ino, from int) {
	t.Helper()
	was, owners, before := w.p.all(ino), slices.Clone(w.p.owners), w.p.nodes[ino]
	used, _ := space.Used(w.f.S, w.p.s.Blocks)
	w.do(t, action{call: "Cut", ino: ino, i: from})
	w.holds(t)
	left := 0
	for i, n := range was {
		want := 0
		if i < from {
			want = n
		}
		answers(t, w.f, action{call: "At", ino: ino, i: i}, answer{n: want})
		if n > 0 && i >= from {
			used--
			owners[n] = unowned
		}
		if i >= 10 && want > 0 {
			left++
		}
	}
	if before.Map > 0 && left == 0 {
		used--
		owners[before.Map], before.Map = unowned, 0
	}
	for i := from; i < 10; i++ {
		before.Direct[i] = 0
	}
	if node, e := w.f.Get(ino); node != before || e != api.OK {
		t.Fatalf("cut at %d: %+v, not %+v", from, node, before)
	}
	for n, want := range owners {
		if o, e := space.Owner(w.f.S, n); o != want || e != api.OK {
			t.Fatalf("cut at %d: block %d is %v's, not %v's", from, n, o, want)
		}
	}
	if n, _ := space.Used(w.f.S, w.p.s.Blocks); n != used {
		t.Fatalf("cut at %d: %d are used, not %d", from, n, used)
	}
}

// P14.2, Cut: the map goes with its last location.
func TestCutMap(t *testing.T) {
	w := twinOf(t, with(128, 60, 70, 0, 0, 0, 0, 0, 0, 0, 0, 0, 0, 80, 0, 82))
	for _, c := range []struct{ from, at, last int }{{138, 60, 82}, {14, 60, 82}, {13, 60, 80}, {13, 60, 80}, {12, 60, 80}, {11, 0, 70}, {10, 0, 70}, {1, 0, 70}} {
		w.do(t, action{call: "Cut", ino: 2, i: c.from})
		node, _ := w.f.Get(2)
		list, _ := Blocks(w.f, 2)
		if node.Map != c.at || list[len(list)-1] != c.last {
			t.Fatalf("cut at %d: a map at %d, %v", c.from, node.Map, list)
		}
		w.holds(t)
	}
	// A map without locations is freed wherever the file is cut.
	for _, from := range []int{0, 10, 60, 138, math.MaxInt} {
		w = twinOf(t, with(128, 60, 70))
		does(t, "Cut", Cut(w.f, 2, from), api.OK)
		node, _ := w.f.Get(2)
		if o, _ := space.Owner(w.f.S, 60); node.Map != 0 || o != unowned {
			t.Fatalf("cut at %d: a map at %d, which is %v's", from, node.Map, o)
		}
	}
}

// P14.2, Cut: nothing is to be cut: nothing is written.
func TestCutNothing(t *testing.T) {
	w := twinOf(t, with(128, 60, 70, 0, 0, 0, 0, 0, 0, 0, 0, 0, 0, 80))
	was := w.picture()
	for range 2 {
		for _, a := range []action{{call: "Cut", ino: 2, i: 12}, {call: "Cut", ino: 2, i: 138}, {call: "Cut", ino: 2, i: math.MaxInt}, {call: "Cut", ino: 8}, {call: "Cut", ino: 3, i: 10}} {
			w.do(t, a)
		}
		w.f.S.End(true)
	}
	w.unchanged(t, was)
	if w.f.S.Dirty() != 0 {
		t.Fatal("something is written")
	}
}

// P14.2: a file through all groups, cut piece by piece, and mapped again behind it.
func TestCutGroups(t *testing.T) {
	p := fresh(768)
	p.placeMap(2, 764)
	for i := range 138 {
		n := 64*(i%12) + 2 + i/12
		if i%12 == 0 {
			n = 49 + i/12
		}
		p.place(2, i, n)
	}
	for _, step := range []int{138, 100, 50, 20, 7, 1} {
		w := twinOf(t, p.clone())
		for from := 138; from >= 0; from -= step {
			cutOnce(t, w, 2, from)
			w.next(t, true)
		}
		cutOnce(t, w, 2, 0)
		w.next(t, true)
		answers(t, w.f, action{call: "Blocks", ino: 2}, answer{})
		for i := range 138 {
			w.do(t, action{call: "Map", ino: 2, i: (i * 5) % 138})
			if i%5 == 0 {
				w.next(t, true)
			}
		}
		w.holds(t)
		w.do(t, action{call: "Blocks", ino: 2})
		w.do(t, action{call: "Cut", ino: 2})
		w.holds(t)
	}
}

// notMaps returns blocks that are no map's, made of one that is.
func notMaps(right []byte) [][]byte {
	all := [][]byte{filled(1), filled(77), slices.Repeat([]byte{0xff}, 256), slices.Repeat([]byte{0, 3}, 128)}
	for k := range 128 {
		b := slices.Clone(right)
		b[2*k+1] |= 1 << (2 + k%6)
		b[2*k+1] |= 3
		all = append(all, b)
	}
	return all
}

// P14.1, P14.2: the map's block is none: ErrClean from each call that reads it, ahead of any change; direct blocks are found without it.
func TestNoMap(t *testing.T) {
	w := twinOf(t, with(128, 60, 70, 71, 0, 0, 0, 0, 0, 0, 0, 72, 73, 0, 75))
	for _, b := range notMaps(w.p.bytes[60]) {
		w.spoil(t, 60, b)
		was := w.picture()
		for _, i := range []int{10, 11, 12, 137} {
			refused(t, w.f, action{call: "At", ino: 2, i: i}, api.ErrClean)
			refused(t, w.f, action{"Set", 2, i, 80}, api.ErrClean)
			refused(t, w.f, action{call: "Map", ino: 2, i: i}, api.ErrClean)
		}
		for _, from := range []int{0, 1, 10, 11, 138, math.MaxInt} {
			refused(t, w.f, action{call: "Cut", ino: 2, i: from}, api.ErrClean)
		}
		refused(t, w.f, action{call: "Blocks", ino: 2}, api.ErrClean)
		refused(t, w.f, action{call: "Pieces", ino: 2}, api.ErrClean)
		// The numbers of blocks are asked ahead of the map.
		for _, i := range []int{-1, 138, math.MinInt, math.MaxInt} {
			for _, call := range []string{"At", "Set", "Map"} {
				refused(t, w.f, action{call, 2, i, 80}, api.ErrArg)
			}
		}
		w.unchanged(t, was)
		answers(t, w.f, action{call: "At", ino: 2, i: 9}, answer{n: 72})
		answers(t, w.f, action{call: "Map", ino: 2, i: 9}, answer{n: 72})
		answers(t, w.f, action{call: "Map", ino: 2, i: 2}, answer{n: 74})
		answers(t, w.f, action{"Set", 2, 2, 99}, answer{})
		answers(t, w.f, action{call: "At", ino: 2, i: 2}, answer{n: 99})
		w.do(t, action{call: "Map", ino: 3, i: 11})
		w.do(t, action{call: "Cut", ino: 3})
		w.next(t, false)
		w.holds(t)
	}
}

// P14.1: a map that the disk has not: the error of the store.
func TestMapBeyondTheDisk(t *testing.T) {
	w := twinOf(t, with(64, 0, 50, 51))
	w.p.nodes[2].Map = 700
	w.spoil(t, 43, w.p.blocks()[43])
	was := w.picture()
	for _, a := range []action{
		{call: "At", ino: 2, i: 10}, {"Set", 2, 10, 55}, {call: "Map", ino: 2, i: 10}, {call: "Cut", ino: 2}, {call: "Cut", ino: 2, i: 138}, {call: "Blocks", ino: 2}, {call: "Pieces", ino: 2},
	} {
		refused(t, w.f, a, api.ErrArg)
	}
	w.unchanged(t, was)
	answers(t, w.f, action{call: "At", ino: 2, i: 1}, answer{n: 51})
	answers(t, w.f, action{call: "Map", ino: 2, i: 2}, answer{n: 52})
}

// everything returns calls of all six kinds on inode 2, direct blocks and others.
func everything() []action {
	return []action{
		{call: "At", ino: 2}, {call: "At", ino: 2, i: 10}, {"Set", 2, 0, 80}, {"Set", 2, 10, 80}, {call: "Map", ino: 2}, {call: "Map", ino: 2, i: 1}, {call: "Map", ino: 2, i: 10},
		{call: "Map", ino: 2, i: 11}, {call: "Cut", ino: 2}, {call: "Cut", ino: 2, i: 138}, {call: "Blocks", ino: 2}, {call: "Pieces", ino: 2},
	}
}

// P14.1: block 0 or the inode's block of the table is not what it should be: ErrClean ahead of all that is asked of a block's number; nothing is changed.
func TestNoTable(t *testing.T) {
	w := twinOf(t, with(128, 60, 70, 0, 0, 0, 0, 0, 0, 0, 0, 0, 73))
	damaged := slices.Clone(w.p.blocks()[43])
	damaged[32*5] = 4
	other, _ := pack.Seal([]byte("ashlar 2"))
	for _, c := range []struct {
		n int
		b []byte
	}{{0, filled(1)}, {0, make([]byte, 256)}, {0, other}, {0, w.p.blocks()[1]}, {43, filled(1)}, {43, damaged}, {43, w.p.blocks()[0]}} {
		w.spoil(t, c.n, c.b)
		was := w.picture()
		for _, a := range everything() {
			refused(t, w.f, a, api.ErrClean)
		}
		for _, call := range []string{"At", "Set", "Map", "Cut"} {
			refused(t, w.f, action{call, 2, -1, 80}, api.ErrClean)
			refused(t, w.f, action{call, 2, 1, 0}, api.ErrClean)
			refused(t, w.f, action{call, 4, 0, 80}, api.ErrClean)
		}
		for _, call := range six {
			refused(t, w.f, action{call, 0, 0, 80}, api.ErrArg)
			refused(t, w.f, action{call, 48, -1, 0}, api.ErrArg)
		}
		w.unchanged(t, was)
		if c.n > 0 {
			w.do(t, action{call: "Map", ino: 8, i: 10})
			w.do(t, action{call: "Cut", ino: 8})
		}
		w.next(t, false)
		w.holds(t)
	}
}

// notOwners returns the descriptor and the owners' page of group g, one of them not what it should be.
func notOwners(p plain, g int) [][2][]byte {
	desc, page := p.blocks()[geom.Desc(g)], p.blocks()[geom.Owners(g)]
	other := slices.Clone(p.owners[64*g : 64*g+64])
	for k, o := range other {
		if o == unowned {
			other[k] = api.Owner{Ino: 3}
		}
	}
	of, _ := group.Of(g, other)
	full, _ := group.Encode(of)
	of.Group = 11
	far, _ := group.Encode(of)
	malformed := slices.Clone(page)
	malformed[254], malformed[255] = 99, 99
	return [][2][]byte{{filled(1), page}, {make([]byte, 256), page}, {full, page}, {far, page}, {desc, filled(1)}, {desc, make([]byte, 256)}, {desc, malformed}, {page, desc}}
}

// P14.1, P14.2: a group's descriptor or owners' page is not what it should be: ErrClean from what reads it, with what was changed before; what does not read it goes on.
func TestNoOwners(t *testing.T) {
	p := with(192, 60, 61, 70, 0, 140, 141, 0, 0, 0, 0, 71, 62, 142, 72)
	w := twinOf(t, p)
	// The blocks that Cut frees ahead of the first one in that group.
	for g, ahead := range [][]int{{}, {61}, {61, 70}} {
		for _, b := range notOwners(p, g) {
			w.spoil(t, geom.Desc(g), b[0])
			w.spoil(t, geom.Owners(g), b[1])
			was := w.picture()
			for _, i := range []int{2, 13, 137} {
				refused(t, w.f, action{call: "Map", ino: 2, i: i}, api.ErrClean)
				refused(t, w.f, action{call: "Map", ino: 3, i: i}, api.ErrClean)
			}
			w.unchanged(t, was)
			for _, a := range []action{
				{call: "At", ino: 2, i: 3}, {call: "At", ino: 2, i: 11}, {call: "Map", ino: 2, i: 10}, {call: "Map", ino: 2}, {call: "Blocks", ino: 2}, {call: "Pieces", ino: 2},
				{call: "Cut", ino: 2, i: 13}, {"Set", 2, 0, 61}, {"Set", 2, 12, 72},
			} {
				w.do(t, a)
			}
			refused(t, w.f, action{call: "Cut", ino: 2}, api.ErrClean)
			list, _ := Blocks(w.f, 2)
			for k, n := range ahead {
				if o, e := space.Owner(w.f.S, n); o != unowned || e != api.OK || list[k] != 0 {
					t.Fatalf("group %d: block %d is %v's, %v, at %v", g, n, o, e, list)
				}
			}
			if rest := p.all(2)[len(ahead):13]; !slices.Equal(list[len(ahead):], rest) {
				t.Fatalf("group %d: %v, not %v", g, list, rest)
			}
			w.next(t, false)
			w.holds(t)
		}
	}
	// The group of the map alone: all else is cut by then.
	p = with(192, 150, 70, 71, 0, 0, 0, 0, 0, 0, 0, 0, 72)
	w = twinOf(t, p)
	w.spoil(t, 128, filled(1))
	refused(t, w.f, action{call: "Cut", ino: 2, i: 1}, api.ErrClean)
	answers(t, w.f, action{call: "Blocks", ino: 2}, answer{list: []int{70}})
	if node, _ := w.f.Get(2); node.Map != 150 {
		t.Fatalf("the map is at %d", node.Map)
	}
}

// P14.2, Cut: a location of what is no used open block: ErrArg of layer 12, with what was cut before.
func TestCutStray(t *testing.T) {
	for _, n := range []int{1, 42, 63, 64, 65, 100, 127} {
		for _, i := range []int{0, 1, 9, 10, 12} {
			for _, from := range []int{0, 1, 8, 10, 11} {
				w := twinOf(t, with(128, 60, 70, 71, 72, 0, 0, 0, 0, 0, 74, 75, 76, 0, 78, 79))
				w.do(t, action{"Set", 2, i, n})
				w.do(t, action{call: "Cut", ino: 2, i: from})
				w.holds(t)
				if x := asked(w.f, action{call: "Cut", ino: 2, i: from}); x.e == api.OK != (i < from) {
					t.Fatalf("cut at %d, where %d is at %d: %v", from, i, n, x.e)
				}
			}
		}
	}
	// The same block twice, that of another file, one beyond the disk, and the map's own.
	w := twinOf(t, with(128, 60, 70, 71, 72, 0, 0, 0, 0, 0, 0, 0, 76, 77))
	w.do(t, action{call: "Map", ino: 8, i: 4})
	for _, c := range []struct{ i, n int }{{2, 70}, {1, 49}, {1, 128}, {11, 767}, {11, 76}, {1, 60}, {11, 60}} {
		w.next(t, true)
		ahead := w.p.clone()
		w.do(t, action{"Set", 2, c.i, c.n})
		w.do(t, action{call: "Cut", ino: 2})
		w.holds(t)
		w.next(t, false)
		w.p = ahead
	}
}

// P14.1, P14.2: of several errors the one that the chapters name first.
func TestErrorOrder(t *testing.T) {
	p := with(128, 60, 70, 0, 0, 0, 0, 0, 0, 0, 0, 0, 73)
	p.occupy()
	w := twinOf(t, p)
	for _, a := range []action{{"Set", 2, 1, 0}, {"Set", 2, 1, 80}, {"Set", 4, 1, 0}, {"Set", 2, 138, 0}, {"Map", 2, 138, 0}, {"Map", 2, -1, 0}, {"Map", 4, 1, 0}, {"Cut", 4, -1, 0}, {"Cut", 2, -1, 0}} {
		refused(t, w.f, a, api.ErrArg)
	}
	refused(t, w.f, action{call: "Map", ino: 2, i: 1}, api.ErrNoSpace)
	// Owners that are not what they should be come ahead of no space, and behind the arguments.
	w.spoil(t, 64, filled(1))
	refused(t, w.f, action{call: "Map", ino: 2, i: 1}, api.ErrClean)
	refused(t, w.f, action{call: "Map", ino: 2, i: 138}, api.ErrArg)
	refused(t, w.f, action{call: "Map", ino: 4, i: 1}, api.ErrArg)
	refused(t, w.f, action{call: "Cut", ino: 2, i: -1}, api.ErrArg)
	// So does a map: it is read ahead of what is asked of n and from.
	w.spoil(t, 60, filled(1))
	refused(t, w.f, action{"Set", 2, 10, 0}, api.ErrClean)
	refused(t, w.f, action{"Set", 2, 11, 80}, api.ErrClean)
	refused(t, w.f, action{"Set", 2, 0, 0}, api.ErrArg)
	refused(t, w.f, action{"Set", 2, 138, 0}, api.ErrArg)
	refused(t, w.f, action{call: "Cut", ino: 2, i: -1}, api.ErrClean)
	refused(t, w.f, action{call: "Cut", ino: 4, i: -1}, api.ErrArg)
}

// R1: a nil file system, one on a nil store, and one on a store without a disk, whatever the arguments.
func TestNil(t *testing.T) {
	var none *table.FS
	for _, f := range []*table.FS{none, {}, table.New(nil), {S: &store.Store{}}} {
		for k, ino := range inos {
			for j, i := range indices {
				for _, call := range six {
					refused(t, f, action{call, ino, i, locations[(j+k)%len(locations)]}, api.ErrArg)
				}
			}
		}
	}
}

// P14.1: outside of a call what would change something returns ErrBusy, and changes nothing; all else goes as within.
func TestOutside(t *testing.T) {
	w := twinOf(t, with(128, 60, 70, 71, 0, 0, 0, 0, 0, 0, 0, 0, 73, 0, 75))
	w.end(t, true)
	was := w.picture()
	for _, a := range []action{
		{"Set", 2, 0, 80}, {"Set", 2, 10, 80}, {"Set", 2, 0, 70}, {call: "Map", ino: 2, i: 2}, {call: "Map", ino: 2, i: 11}, {call: "Map", ino: 3, i: 11}, {call: "Cut", ino: 2},
		{call: "Cut", ino: 2, i: 10}, {call: "Cut", ino: 2, i: 12},
	} {
		refused(t, w.f, a, api.ErrBusy)
	}
	for _, a := range []action{
		{"Set", 2, 0, 0}, {"Set", 2, 2, 80}, {"Set", 4, 0, 80}, {call: "Map", ino: 2, i: 138}, {call: "Map", ino: 4}, {call: "Cut", ino: 2, i: -1}, {call: "Cut", ino: 4}, {call: "Map", ino: 2, i: 12},
		{call: "At", ino: 2, i: 12}, {call: "At", ino: 2, i: 2}, {call: "Blocks", ino: 2}, {call: "Pieces", ino: 2}, {call: "Cut", ino: 2, i: 13}, {call: "Cut", ino: 3},
	} {
		w.do(t, a)
	}
	w.unchanged(t, was)
	if w.f.S.Dirty() != 0 || w.f.S.Within() {
		t.Fatal("a call outside changes something")
	}
	w.d.Damage(64, filled(1))
	refused(t, w.f, action{call: "Map", ino: 2, i: 2}, api.ErrClean)
	refused(t, w.f, action{call: "Cut", ino: 2}, api.ErrClean)
}

// P14.1: a store that is over returns ErrIO for each call on a number that can be an inode's.
func TestOver(t *testing.T) {
	w := twinOf(t, with(128, 60, 70, 0, 0, 0, 0, 0, 0, 0, 0, 0, 73))
	w.do(t, action{call: "Map", ino: 2, i: 2})
	w.end(t, true)
	w.d.SetFuse(0)
	does(t, "Sync", w.f.S.Sync(), api.ErrIO)
	for range 2 {
		for _, a := range everything() {
			refused(t, w.f, a, api.ErrIO)
		}
		for _, call := range []string{"At", "Set", "Map", "Cut"} {
			refused(t, w.f, action{call, 2, -1, 0}, api.ErrIO)
			refused(t, w.f, action{call, 4, 0, 80}, api.ErrIO)
			refused(t, w.f, action{call, 0, 0, 80}, api.ErrArg)
		}
	}
}

// P14.1: without power the first block that is read from the disk is ErrIO, and the store is over, also behind changes.
func TestNoPower(t *testing.T) {
	p := with(192, 60, 70, 140, 0, 0, 0, 0, 0, 0, 0, 0, 73)
	for _, c := range []struct {
		action
		there []int
	}{
		{action{call: "At", ino: 2}, nil}, {action{call: "At", ino: 2}, []int{0}}, {action{call: "At", ino: 2, i: 10}, []int{0, 43}}, {action{"Set", 2, 10, 80}, []int{0, 43}},
		{action{call: "Blocks", ino: 2}, []int{0, 43}}, {action{call: "Pieces", ino: 2}, []int{0, 43}}, {action{call: "Cut", ino: 2}, []int{0, 43}}, {action{call: "Cut", ino: 2}, []int{0, 43, 60}},
		{action{call: "Cut", ino: 2}, []int{0, 43, 60, 64, 65}}, {action{call: "Cut", ino: 2}, []int{0, 43, 60, 64, 65, 128, 129}}, {action{call: "Cut", ino: 2, i: 11}, []int{0, 43}},
		{action{call: "Map", ino: 2}, []int{0}}, {action{call: "Map", ino: 2, i: 2}, []int{0, 43}}, {action{call: "Map", ino: 2, i: 10}, []int{0, 43}}, {action{call: "Map", ino: 2, i: 11}, []int{0, 43, 60}},
		{action{call: "Map", ino: 3, i: 11}, []int{0, 43, 60, 1, 2, 64, 65, 128}},
	} {
		w := twinOf(t, p.clone())
		for _, n := range c.there {
			w.spoil(t, n, p.blocks()[n])
		}
		w.d.SetFuse(0)
		w.d.Flush()
		refused(t, w.f, c.action, api.ErrIO)
		if !w.f.S.Over() {
			t.Fatalf("%+v: not over", c)
		}
		for _, a := range everything() {
			refused(t, w.f, a, api.ErrIO)
		}
	}
	// What reads nothing from the disk meets no error yet.
	w := twinOf(t, p.clone())
	for _, n := range []int{0, 1, 2, 43, 60, 64, 65, 128, 129} {
		w.spoil(t, n, p.blocks()[n])
	}
	w.d.SetFuse(0)
	w.d.Flush()
	for _, a := range []action{{call: "At", ino: 2, i: 10}, {call: "Map", ino: 2, i: 11}, {call: "Map", ino: 3, i: 11}, {"Set", 2, 10, 73}, {call: "Blocks", ino: 2}, {call: "Cut", ino: 2}} {
		w.do(t, a)
	}
	w.end(t, true)
	does(t, "Sync", w.f.S.Sync(), api.ErrIO)
}

// P14.1: a call that has no room left: the store's ErrNoSpace, with what was changed before, and End(false) undoes it.
func TestNoRoom(t *testing.T) {
	p := with(128, 60, 70, 71, 0, 0, 0, 0, 0, 0, 0, 0, 73, 0, 75)
	p.placeMap(8, 61)
	p.place(8, 20, 62)
	for _, c := range []struct {
		action
		puts []int // in the order in which they are changed first
	}{
		{action{"Set", 2, 0, 80}, []int{43}}, {action{"Set", 2, 10, 80}, []int{60}}, {action{call: "Map", ino: 2, i: 2}, []int{65, 64, 72, 43}},
		{action{call: "Map", ino: 2, i: 11}, []int{65, 64, 74, 60}}, {action{call: "Map", ino: 2, i: 20}, []int{2, 1, 49, 60}}, {action{call: "Map", ino: 3, i: 11}, []int{2, 1, 49, 43, 50}},
		{action{call: "Cut", ino: 2, i: 1}, []int{65, 64, 43, 60, 2, 1}}, {action{call: "Cut", ino: 2, i: 12}, []int{65, 64, 60}}, {action{call: "Cut", ino: 2, i: 10}, []int{65, 64, 60, 2, 1, 43}},
		{action{call: "Cut", ino: 8, i: 12}, []int{2, 1, 61, 44}},
	} {
		for left := range 8 {
			w := twinOf(t, p.clone())
			for k := range 37 - left {
				w.spoil(t, 3+k, make([]byte, 256))
			}
			was := w.picture()
			if left >= len(c.puts) {
				w.do(t, c.action)
				w.holds(t)
			} else {
				refused(t, w.f, c.action, api.ErrNoSpace)
				now := w.picture()
				for n := range was {
					put := slices.Contains(c.puts[:left], n)
					if bytes.Equal(was[n], now[n]) == put {
						t.Fatalf("%+v with room for %d: block %d", c, left, n)
					}
				}
			}
			w.end(t, false)
			w.p = p.clone()
			w.holds(t)
			w.unchanged(t, p.blocks())
		}
	}
}

// P14.1: what was changed before an error remains.
func TestRemains(t *testing.T) {
	w := twinOf(t, fresh(64))
	for k, a := range []action{{call: "Map", ino: 2}, {call: "Map", ino: 2, i: 11}, {call: "Map", ino: 3, i: 1}, {"Set", 2, 11, 51}, {call: "Cut", ino: 3}, {call: "Map", ino: 2, i: 137}, {call: "Cut", ino: 2, i: 12}} {
		w.do(t, a)
		for _, bad := range []action{
			{call: "At"}, {call: "At", ino: 2, i: 138}, {"Set", 2, 0, 768}, {"Set", 2, 5, 50}, {call: "Map", ino: 4}, {call: "Map", ino: 2, i: -1}, {call: "Cut", ino: 2, i: -1}, {call: "Cut", ino: 48},
			{call: "Blocks", ino: 9}, {call: "Pieces"},
		} {
			refused(t, w.f, bad, api.ErrArg)
		}
		w.holds(t)
		if k%2 == 1 {
			w.next(t, true)
		}
	}
	w.holds(t)
}

// changeAll makes all kinds of changes.
func changeAll(t *testing.T, w *twin) {
	t.Helper()
	for _, a := range []action{
		{call: "Map", ino: 2}, {call: "Map", ino: 2, i: 1}, {call: "Map", ino: 3, i: 15}, {call: "Map", ino: 2, i: 10}, {call: "Map", ino: 47, i: 137}, {call: "Cut", ino: 1, i: 3}, {call: "Map", ino: 8, i: 9},
		{call: "Cut", ino: 3, i: 16}, {call: "Map", ino: 3, i: 20}, {call: "Cut", ino: 2, i: 10}, {call: "Cut", ino: 47},
	} {
		w.do(t, a)
	}
	n, _ := w.p.at(2, 0)
	w.do(t, action{"Set", 2, 0, n})
	w.holds(t)
}

// P14.1, P14.2: what a call did is undone by End(false), and stays behind End(true), Sync and a crash.
func TestUndoneAndKept(t *testing.T) {
	w := twinOf(t, scattered(192, 5, 60))
	was := w.p.clone()
	for _, keep := range []bool{false, true} {
		changeAll(t, w)
		changed := w.p
		w.end(t, keep)
		if !keep {
			w.p = was.clone()
			w.unchanged(t, was.blocks())
		}
		w.holds(t)
		for _, ino := range inUse {
			w.do(t, action{call: "Blocks", ino: ino})
		}
		// Not durable: a crash undoes it either way.
		w.d.Crash([]bool{true})
		w.p = was.clone()
		w.open(t).holds(t)
		changeAll(t, w)
		if !changed.equal(w.p) {
			t.Fatal("the same calls do something else")
		}
		w.end(t, keep)
		does(t, "Sync", w.f.S.Sync(), api.OK)
		w.d.Crash(nil)
		if !keep {
			w.p = was.clone()
		}
		w.open(t).holds(t)
	}
}

// P14.1, P14.2: the power failing at each change of several calls and Syncs: ErrIO, and behind a crash all of a call is there or nothing.
func TestPowerFails(t *testing.T) {
	for _, keep := range [][]bool{nil, {true}, {true, false}, {false, true, true}} {
		for fuse, failed := 0, true; failed; fuse++ {
			w := twinOf(t, with(128, 60, 70, 71, 0, 0, 0, 0, 0, 0, 0, 0, 73, 0, 75))
			w.d.SetFuse(fuse)
			before := w.p.clone()
			failed = false
			for k := 0; k < 4 && !failed; k++ {
				before = w.p.clone()
				for _, a := range []action{{call: "Map", ino: 3, i: 5 * k}, {call: "Map", ino: 2, i: 2 + k}, {"Set", 3, 5 * k, 80 + k}, {"Set", 3, 5 * k, 49}, {call: "Cut", ino: 2, i: 12 - 4*k}} {
					w.do(t, a)
				}
				w.end(t, true)
				if failed = w.f.S.Sync() != api.OK; failed {
					for _, a := range everything() {
						refused(t, w.f, a, api.ErrIO)
					}
				} else {
					does(t, "Begin", w.f.S.Begin(), api.OK)
				}
			}
			w.d.Crash(keep)
			w.open(t)
			if failed && w.odd() >= 0 {
				w.p = before
			}
			w.holds(t)
			w.do(t, action{call: "Blocks", ino: 2})
			w.do(t, action{call: "Map", ino: 8, i: 10})
			w.holds(t)
		}
	}
}

// draw returns a call, with arguments that are wrong now and then, and how many blocks it changes at most.
func (l *lots) draw(far bool) (action, int) {
	pick := func(list []int) int { return list[l.below(len(list))] }
	a := action{ino: pick(inUse), i: l.below(13), n: 1 + l.below(767)}
	if far {
		a.i = l.below(138)
	}
	if l.below(12) == 0 {
		a.ino = pick(inos)
	}
	if l.below(12) == 0 {
		a.i = pick(indices)
	}
	switch k := l.below(20); {
	case k < 10:
		a.call = "Map"
		return a, 7
	case k < 12:
		a.call = "Cut"
		return a, 28
	case k < 15:
		a.call = "At"
	case k < 17:
		a.call = "Blocks"
	case k < 19:
		a.call = "Pieces"
	default:
		// Holes and wrong numbers alone: shift makes those that are right.
		a.call, a.n = "Set", pick([]int{0, -1, 768, math.MinInt, math.MaxInt})
	}
	return a, 0
}

// shift puts a block of a file elsewhere, if it has one there and another is free, or changes it for a block of another file.
func shift(t *testing.T, w *twin, l *lots) {
	t.Helper()
	a, b := action{"Set", inUse[l.below(5)], l.below(20), 0}, action{"Set", inUse[l.below(5)], l.below(20), 0}
	n, _ := w.p.at(a.ino, a.i)
	m, _ := w.p.at(b.ino, b.i)
	if n == 0 || a == b {
		return
	}
	if m == 0 {
		o := w.p.owners[n]
		to, e := w.f.Take(l.below(w.p.s.Blocks), o)
		if e != api.OK {
			return
		}
		does(t, "Give", w.f.Give(n), api.OK)
		a.n = to
		w.do(t, a)
		w.p.owners[to], w.p.owners[n] = o, unowned
		w.p.bytes[to], _ = w.f.S.Get(to)
		return
	}
	a.n, b.n = m, n
	w.do(t, a)
	w.do(t, b)
	for _, c := range []action{a, b} {
		o := api.Owner{Ino: uint16(c.ino), At: uint16(c.i)}
		does(t, "SetOwner", space.SetOwner(w.f.S, c.n, o), api.OK)
		w.p.owners[c.n] = o
	}
}

// lands makes the plain file system the one of these that the store has: the last one that does.
func (w *twin) lands(t *testing.T, ends []plain) {
	t.Helper()
	for _, p := range slices.Backward(ends) {
		w.p = p.clone()
		if w.odd() < 0 {
			return
		}
	}
	t.Fatal("no call has left that behind")
}

// P14.1, P14.2: long random sequences beside a plain file system, with much room and with little, and with calls that are undone, Syncs and crashes between.
func TestHistories(t *testing.T) {
	for seed := range 12 {
		l := lots(seed)
		w := twinOf(t, scattered([]int{64, 128, 192, 320, 768}[seed%5], seed, 15*seed))
		// What the calls have left since the last Sync: a crash undoes the last ones of them.
		ends, room := []plain{w.p.clone()}, 37
		for i := range 2500 {
			a, most := l.draw(seed%2 == 0)
			if room < most+10 {
				w.next(t, true)
				ends, room = append(ends, w.p.clone()), 37
			}
			room -= most
			w.do(t, a)
			if l.below(8) == 0 && room >= 10 {
				room -= 10
				shift(t, w, &l)
			}
			if i%50 == 0 {
				w.holds(t)
			}
			switch k := l.below(60); {
			case k < 2:
				w.next(t, false)
				w.p, room = ends[len(ends)-1].clone(), 37
			case k < 4:
				w.end(t, true)
				does(t, "Sync", w.f.S.Sync(), api.OK)
				does(t, "Begin", w.f.S.Begin(), api.OK)
				ends, room = []plain{w.p.clone()}, 37
			case k < 5:
				w.d.Crash([]bool{true, false})
				w.open(t).lands(t, ends)
				ends, room = []plain{w.p.clone()}, 37
			}
		}
		w.end(t, true)
		does(t, "Sync", w.f.S.Sync(), api.OK)
		w.d.Crash(nil)
		w.open(t).holds(t)
	}
}

// R3: a list that was handed out is as it was, whatever is done afterwards, and what is done with it, with its spare capacity, touches nothing.
func TestApartFromCalls(t *testing.T) {
	w := twinOf(t, with(128, 60, 70, 0, 0, 0, 0, 0, 0, 0, 0, 0, 73, 0, 75))
	kept, _ := Blocks(w.f, 2)
	same := slices.Clone(kept)
	w.do(t, action{"Set", 2, 0, 80})
	w.do(t, action{call: "Map", ino: 2, i: 1})
	w.do(t, action{"Set", 2, 0, 70})
	w.do(t, action{call: "Cut", ino: 2, i: 11})
	w.next(t, false)
	w.p = with(128, 60, 70, 0, 0, 0, 0, 0, 0, 0, 0, 0, 73, 0, 75)
	if !slices.Equal(kept, same) {
		t.Fatalf("%v, not %v", kept, same)
	}
	other, _ := Blocks(w.f, 2)
	for _, list := range [][]int{kept, other} {
		full := list[:cap(list)]
		for k := range full {
			full[k] = 99
		}
		w.do(t, action{call: "Blocks", ino: 2})
		w.do(t, action{call: "Pieces", ino: 2})
		w.do(t, action{call: "Map", ino: 2, i: 11})
		w.holds(t)
	}
}

// R2: two file systems on two stores have nothing in common, and the same calls do the same; two on one store are one.
func TestStoresApart(t *testing.T) {
	p := with(192, 60, 70, 0, 0, 0, 0, 0, 0, 0, 0, 0, 73, 0, 75)
	a, b := twinOf(t, p.clone()), twinOf(t, p.clone())
	changeAll(t, a)
	b.holds(t)
	changeAll(t, b)
	if !a.p.equal(b.p) {
		t.Fatal("the same calls do something else")
	}
	a.holds(t)
	other := &twin{d: a.d, f: table.New(a.f.S), p: a.p}
	other.do(t, action{call: "Map", ino: 2, i: 50})
	other.do(t, action{call: "Cut", ino: 3})
	a.p = other.p
	a.do(t, action{call: "Blocks", ino: 2})
	a.do(t, action{call: "Map", ino: 3, i: 50})
	a.holds(t)
	b.holds(t)
}

// The layout that the tests write out is that of layer 4, what they lay is well formed, and what they fill blocks with is no map.
func TestPlainLayout(t *testing.T) {
	for n := range 768 {
		if fixedAt(n) != geom.Fixed(n) {
			t.Fatalf("block %d", n)
		}
		if _, e := inode.DecodeMap(filled(n)); e == api.OK {
			t.Fatalf("the filled block %d is a map", n)
		}
	}
	for seed, blocks := range []int{64, 128, 768} {
		p := scattered(blocks, seed, 100)
		if !super.Formed(p.s) {
			t.Fatalf("%+v is not well formed", p.s)
		}
		for n, b := range p.blocks() {
			if len(b) != 256 {
				t.Fatalf("block %d has %d bytes", n, len(b))
			}
		}
	}
}
