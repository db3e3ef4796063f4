package file

import (
	"bytes"
	"math"
	"slices"
	"testing"

	"ashlar/api"
	"ashlar/fmap"
	"ashlar/geom"
	"ashlar/group"
	"ashlar/inode"
	"ashlar/pack"
	"ashlar/space"
	"ashlar/store"
	"ashlar/super"
	"ashlar/table"
)

// zeros returns n zero bytes.
func zeros(n int) []byte { return make([]byte, n) }

// used holds how many open blocks are used.
func (w *twin) used(t *testing.T, want int) {
	t.Helper()
	if n, e := space.Used(w.f.S, w.p.s.Blocks); n != want || e != api.OK {
		t.Fatalf("%d blocks are used, %v, not %d", n, e, want)
	}
}

// P15.1: the chapter's example.
func TestExample(t *testing.T) {
	w := twinOf(t, fresh(64))
	answers(t, w.f, writing(2, 300, []byte("ab")), answer{n: 2})
	if n, e := fmap.At(w.f, 2, 0); n != 0 || e != api.OK {
		t.Fatalf("block 0 is at %d, %v", n, e)
	}
	answers(t, w.f, reading(2, 0, 302), answer{b: append(zeros(300), "ab"...)})
	answers(t, w.f, reading(2, 0, 1000), answer{b: append(zeros(300), "ab"...)})
	w.used(t, 7)
	if node, _ := w.f.Get(2); node.Size != 302 {
		t.Fatalf("the size is %d", node.Size)
	}
}

// P15.1: each call with numbers of inodes about each edge, and of free ones; what is refused changes nothing.
func TestInodeNumbers(t *testing.T) {
	for seed, blocks := range []int{64, 128, 768} {
		w := twinOf(t, scattered(blocks, seed, 40))
		for k, ino := range inos {
			for _, a := range []action{
				reading(ino, 0, 300), reading(ino, -1, 1), writing(ino, 10*k, text(k, 300)), writing(ino, 0, nil), writing(ino, -1, []byte{1}), writing(ino, math.MaxInt, []byte{1}),
				resizing(ino, 100+k), resizing(ino, 0), resizing(ino, -1), resizing(ino, 35329), reading(ino, 0, math.MaxInt),
			} {
				if w.p.is(ino) != api.OK {
					was := w.picture()
					refused(t, w.f, a, api.ErrArg)
					w.unchanged(t, was)
				}
				w.do(t, a)
			}
			w.holds(t)
			w.next(t, true)
		}
	}
	w := twinOf(t, fresh(64))
	for _, ino := range []int{math.MinInt, -1, 0, 4, 46, 48, math.MaxInt} {
		refused(t, w.f, reading(ino, 0, 1), api.ErrArg)
		refused(t, w.f, writing(ino, 0, []byte("a")), api.ErrArg)
		refused(t, w.f, resizing(ino, 0), api.ErrArg)
	}
	for _, ino := range inUse {
		answers(t, w.f, writing(ino, 1, []byte{byte(ino)}), answer{n: 1})
		answers(t, w.f, reading(ino, 0, 9), answer{b: []byte{0, byte(ino)}})
		answers(t, w.f, resizing(ino, 1), answer{})
		answers(t, w.f, reading(ino, 0, 9), answer{b: []byte{0}})
	}
}

// P15.1, Read: offsets and lengths about each edge, all with all; nothing is changed, within a call and outside.
func TestReadEdges(t *testing.T) {
	t.Parallel()
	for k, p := range layouts() {
		w := twinOf(t, p)
		was := w.picture()
		for _, at := range offsets {
			for _, n := range offsets {
				if at < 0 || n < 0 {
					refused(t, w.f, reading(2, at, n), api.ErrArg)
				} else if at%5 == k%5 {
					w.do(t, reading(2, at, n))
				}
			}
		}
		w.unchanged(t, was)
		w.end(t, true)
		w.do(t, reading(2, 0, math.MaxInt))
		w.unchanged(t, was)
		if w.f.S.Dirty() != 0 {
			t.Fatal("Read changes something")
		}
	}
}

// P15.1, Read: offsets and lengths about the size, both at once.
func TestReadSize(t *testing.T) {
	t.Parallel()
	for _, p := range layouts() {
		w := twinOf(t, p)
		size := p.nodes[2].Size
		whole, e := Read(w.f, 2, 0, size)
		if len(whole) != size || e != api.OK {
			t.Fatalf("%d bytes of %d, %v", len(whole), size, e)
		}
		for at := max(0, size-260); at < size+4; at++ {
			for _, n := range []int{0, 1, 2, size - at - 1, size - at, size - at + 1, size - at + 300, 1 << 31, math.MaxInt - at, math.MaxInt - 1, math.MaxInt} {
				if n >= 0 {
					from := min(at, size)
					answers(t, w.f, reading(2, at, n), answer{b: whole[from : from+min(n, size-from)]})
				}
			}
		}
		for _, at := range []int{size, size + 1, size + 256, 35328, 35329, 1 << 40, math.MaxInt} {
			answers(t, w.f, reading(2, max(at, size), 300), answer{})
		}
	}
}

// P15.1, Read: a file of each size, of blocks and holes written out.
func TestReadWrittenOut(t *testing.T) {
	a, b := text(0, 256), text(256, 256)
	for _, c := range []struct {
		p     plain
		at, n int
		want  []byte
	}{
		{with(128, 0, 0), 0, 10, nil}, {with(128, 1, 0, 70), 0, 10, a[:1]}, {with(128, 1, 0), 0, 10, zeros(1)}, {with(128, 300, 0, 70, 71), 254, 4, []byte{a[254], a[255], b[0], b[1]}},
		{with(128, 300, 0, 70), 250, 100, append(slices.Clone(a[250:]), zeros(44)...)}, {with(128, 300, 0, 0, 71), 250, 100, append(zeros(6), b[:44]...)}, {with(128, 512, 0, 71, 70), 256, 256, b},
		{with(128, 512, 0, 71, 70), 511, 2, b[255:]}, {with(128, 512, 0, 71, 70), 512, 2, nil}, {with(128, 9000, 0), 8990, 20, zeros(10)}, {with(128, 2562, 60, holes(9, 70, 71)...), 2558, 9, append(text(2558, 2), text(2560, 2)...)},
		{with(128, 35328, 60, holes(137, 70)...), 35070, 500, append(zeros(2), text(35072, 256)...)}, {with(128, 35328, 0), 35327, 2, zeros(1)},
	} {
		answers(t, twinOf(t, c.p).f, reading(2, c.at, c.n), answer{b: c.want})
	}
}

// P15.1, Write: offsets and lengths about each edge, on files of all kinds: the answer, and each block of the file system.
func TestWriteEdges(t *testing.T) {
	t.Parallel()
	for k, p := range layouts() {
		w := twinOf(t, p)
		for j, at := range offsets {
			if j%6 != k%6 && at > 0 && at != 300 {
				continue
			}
			for _, n := range lengths {
				was := w.picture()
				a := writing(2, at, text(at/3+1000, n))
				switch {
				case at < 0:
					refused(t, w.f, a, api.ErrArg)
				case at > 35328-min(n, 1024):
					refused(t, w.f, a, api.ErrFBig)
				default:
					w.do(t, a)
					w.holds(t)
					w.do(t, reading(2, max(0, at-300), n+600))
					w.undo(t, p)
				}
				w.unchanged(t, was)
			}
		}
		w.holds(t)
	}
}

// P15.1, Write: no bytes: nothing is done, however far off, and as long as no byte would be beyond the end.
func TestWriteNothing(t *testing.T) {
	for _, p := range []plain{fresh(128), with(128, 300, 60, 70, 71), with(128, 35328, 60, holes(137, 70)...)} {
		w := twinOf(t, p)
		was := w.picture()
		for _, b := range [][]byte{nil, {}, text(0, 9)[:0]} {
			for range 2 {
				for at := 0; at <= 35328; at += 1 + at%77 {
					answers(t, w.f, writing(2, at, b), answer{})
				}
				for _, at := range []int{0, 1, 255, 256, 300, 2560, 35327, 35328} {
					answers(t, w.f, writing(2, at, b), answer{})
				}
				for _, at := range []int{35329, 35330, 1 << 31, 1 << 32, math.MaxInt - 1, math.MaxInt} {
					refused(t, w.f, writing(2, at, b), api.ErrFBig)
				}
				for _, at := range []int{-1, -2, -35328, math.MinInt} {
					refused(t, w.f, writing(2, at, b), api.ErrArg)
				}
				w.f.S.End(true)
			}
			does(t, "Begin", w.f.S.Begin(), api.OK)
		}
		w.unchanged(t, was)
		if w.f.S.Dirty() != 0 {
			t.Fatal("something is written")
		}
	}
}

// P15.1, Write: what would end beyond MaxFile: nothing is done; what ends at it is stored.
func TestWriteTooBig(t *testing.T) {
	for _, n := range []int{1, 2, 100, 256, 1000, 1023, 1024, 1025, 5000} {
		counted := min(n, 1024)
		w := twinOf(t, with(128, 300, 0, 70, 71))
		was := w.picture()
		for _, at := range []int{35328 - counted + 1, 35328 - counted + 2, 35327 + 1, 35329, 40000, 1 << 31, 1 << 32, math.MaxInt - 1024, math.MaxInt - 1, math.MaxInt} {
			refused(t, w.f, writing(2, at, text(7, n)), api.ErrFBig)
		}
		w.unchanged(t, was)
		w.do(t, writing(2, 35328-counted, text(7, n)))
		w.holds(t)
		answers(t, w.f, reading(2, 35328-counted, 2000), answer{b: text(7, n)[:counted]})
		w.do(t, writing(2, 35327-counted, text(8, n)))
		w.holds(t)
	}
}

// P15.1, Write: of more than MaxIO bytes the first ones count, and they alone.
func TestWriteLong(t *testing.T) {
	for _, n := range []int{1022, 1023, 1024, 1025, 1026, 1279, 1280, 2048, 40000, 1 << 20} {
		for _, at := range []int{0, 1, 255, 256, 2000, 34304} {
			w := twinOf(t, fresh(128))
			counted := min(n, 1024)
			answers(t, w.f, writing(2, at, text(5, n)), answer{n: counted})
			answers(t, w.f, reading(2, at, math.MaxInt), answer{b: text(5, n)[:counted]})
			if node, _ := w.f.Get(2); node.Size != at+counted {
				t.Fatalf("%d bytes at %d: the size is %d", n, at, node.Size)
			}
			w.p.write(2, at, text(5, counted))
			w.holds(t)
		}
	}
}

// P15.1, Write: just what must be changed is: the blocks that are written into, and what is needed for those that were holes, or for a greater size.
func TestWriteAlone(t *testing.T) {
	for _, c := range []struct {
		p    plain
		a    action
		want []int // the table is in 43, owners are in 1 and 2, 64 and 65
	}{
		{with(128, 300, 0, 70, 71), writing(2, 0, text(9, 1)), []int{70}}, {with(128, 300, 0, 70, 71), writing(2, 10, text(9, 246)), []int{70}}, {with(128, 300, 0, 70, 71), writing(2, 200, text(9, 100)), []int{70, 71}},
		{with(128, 300, 0, 70, 71), writing(2, 299, text(9, 1)), []int{71}}, {with(128, 300, 0, 70, 71), writing(2, 300, text(9, 1)), []int{43, 71}}, {with(128, 300, 0, 70, 71), writing(2, 299, text(9, 2)), []int{43, 71}},
		{with(128, 300, 0, 70, 71), writing(2, 512, text(9, 256)), []int{43, 64, 65, 72}}, {with(128, 600, 0, 70, 0, 71), writing(2, 300, text(9, 3)), []int{43, 64, 65, 72}},
		{with(128, 600, 0, 70, 0, 71), writing(2, 250, text(9, 300)), []int{43, 64, 65, 70, 71, 72}}, {with(128, 3000, 60, holes(10, 70, 71)...), writing(2, 2560, text(9, 440)), []int{70, 71}},
		{with(128, 3000, 60, holes(10, 70)...), writing(2, 2900, text(9, 100)), []int{60, 64, 65, 71}}, {with(128, 9000, 0), writing(2, 8000, text(9, 10)), []int{1, 2, 43, 49, 50}}, {fresh(128), writing(47, 0, text(9, 1024)), []int{1, 2, 48, 49, 50, 51, 52}},
	} {
		w := twinOf(t, c.p)
		was := w.picture()
		w.do(t, c.a)
		w.holds(t)
		w.end(t, true)
		if got := w.changed(was); !slices.Equal(got, c.want) || w.f.S.Dirty() != len(c.want) {
			t.Fatalf("%+v: %d blocks are changed: %v, not %v", c.a, w.f.S.Dirty(), got, c.want)
		}
	}
	// A size that stays is not written, and so the block of the table is not.
	w := twinOf(t, with(128, 300, 0, 70, 71))
	answers(t, w.f, writing(2, 299, text(299, 1)), answer{n: 1})
	w.end(t, true)
	if w.f.S.Dirty() != 1 {
		t.Fatalf("%d blocks are changed", w.f.S.Dirty())
	}
}

// P15.1, Write: of the inode the size and the locations alone change, and bytes beside those that are written stay.
func TestWriteFields(t *testing.T) {
	p := with(128, 300, 0, 70, 71)
	w := twinOf(t, p)
	answers(t, w.f, writing(2, 100, []byte("xyz")), answer{n: 3})
	want := p.nodes[2]
	if node, e := w.f.Get(2); node != want || e != api.OK {
		t.Fatalf("%+v, not %+v", node, want)
	}
	if b, _ := w.f.S.Get(70); !bytes.Equal(b, slices.Concat(text(0, 100), []byte("xyz"), text(103, 153))) {
		t.Fatalf("block 70 is %x", b)
	}
	answers(t, w.f, writing(2, 3000, []byte("xyz")), answer{n: 3})
	want.Size, want.Map = 3003, 49
	if node, _ := w.f.Get(2); node != want {
		t.Fatalf("%+v, not %+v", node, want)
	}
	if b, _ := w.f.S.Get(50); !bytes.Equal(b, slices.Concat(zeros(184), []byte("xyz"), zeros(69))) {
		t.Fatalf("block 50 is %x", b)
	}
	if b, _ := w.f.S.Get(71); !bytes.Equal(b, append(text(256, 44), zeros(212)...)) {
		t.Fatalf("block 71 is %x", b)
	}
	for _, n := range []int{70, 71, 50} {
		if o, _ := space.Owner(w.f.S, n); o != (api.Owner{Ino: 2, At: map[int]uint16{70: 0, 71: 1, 50: 11}[n]}) {
			t.Fatalf("block %d is %v's", n, o)
		}
	}
}

// P15.1, P15.2: Write beyond the size: what lies between reads as zeros, and no block is used for it.
func TestWriteBeyond(t *testing.T) {
	for _, size := range []int{0, 1, 100, 255, 256, 257, 512, 2560, 2561} {
		for _, gap := range []int{0, 1, 2, 155, 156, 157, 255, 256, 257, 1024, 5000} {
			var list []int
			if size > 0 {
				list = long()[:(size+255)/256]
			}
			at := 0
			if size > 2560 {
				at = 60
			}
			w := twinOf(t, with(256, size, at, list...))
			used, _ := w.p.count(256)
			w.do(t, writing(2, size+gap, []byte("ab")))
			w.holds(t)
			answers(t, w.f, reading(2, 0, math.MaxInt), answer{b: slices.Concat(text(0, size), zeros(gap), []byte("ab"))})
			begin := (size + gap) / 256
			if begin >= len(list) {
				used++
			}
			if (size+gap+1)/256 > begin {
				used++
			}
			if size+gap+1 >= 2560 && at == 0 {
				used++
			}
			w.used(t, used)
			for i := len(list); i < begin; i++ {
				if n, _ := fmap.At(w.f, 2, i); n != 0 {
					t.Fatalf("%d and %d: block %d is used", size, gap, i)
				}
			}
		}
	}
}

// sizes returns sizes about each edge, and about that size.
func sizes(size int) []int {
	return []int{
		math.MinInt, math.MinInt + 1, -1 << 32, -35328, -256, -2, -1, 0, 1, 2, 100, 255, 256, 257, 300, 511, 512, 513, 768, 1300, 2303, 2304, 2305, 2559, 2560, 2561, 2815, 2816, 2817, 9000, 35071, 35072, 35073, 35327, 35328,
		35329, 35330, 1 << 16, 1<<16 + 300, 1 << 31, 1 << 32, 1<<32 + 300, math.MaxInt - 255, math.MaxInt - 1, math.MaxInt, size - 257, size - 256, size - 1, size, size + 1, size + 255, size + 256,
	}
}

// P15.1, Resize: sizes about each edge, on files of all kinds: each block of the file system, and what is read when the file is made longer again.
func TestResizeEdges(t *testing.T) {
	t.Parallel()
	for _, p := range layouts() {
		w := twinOf(t, p)
		was := w.picture()
		for _, n := range sizes(p.nodes[2].Size) {
			switch {
			case n < 0:
				refused(t, w.f, resizing(2, n), api.ErrArg)
			case n > 35328:
				refused(t, w.f, resizing(2, n), api.ErrFBig)
			default:
				resizeOnce(t, w, n)
				w.undo(t, p)
			}
			w.unchanged(t, was)
		}
		w.holds(t)
	}
}

// resizeOnce makes n the size of inode 2, and holds the inode, each of its blocks, their owners, and its bytes.
func resizeOnce(t *testing.T, w *twin, n int) {
	t.Helper()
	want, was, owners := w.p.nodes[2], w.p.all(2), slices.Clone(w.p.owners)
	text, _ := Read(w.f, 2, 0, math.MaxInt)
	text = append(text, zeros(35328-len(text))...)
	far := 0
	for i, m := range was {
		if 256*i >= n {
			if i < 10 {
				want.Direct[i] = 0
			}
			if m > 0 {
				owners[m] = unowned
			}
			was[i] = 0
		} else if i >= 10 && m > 0 {
			far++
		}
	}
	if far == 0 && want.Map > 0 {
		owners[want.Map], want.Map = unowned, 0
	}
	want.Size = n
	w.do(t, resizing(2, n))
	w.holds(t)
	if node, e := w.f.Get(2); node != want || e != api.OK {
		t.Fatalf("resized to %d: %+v, not %+v", n, node, want)
	}
	for i, m := range was {
		if got, e := fmap.At(w.f, 2, i); got != m || e != api.OK {
			t.Fatalf("resized to %d: block %d is at %d, %v, not %d", n, i, got, e, m)
		}
	}
	for m, o := range owners {
		if got, e := space.Owner(w.f.S, m); got != o || e != api.OK {
			t.Fatalf("resized to %d: block %d is %v's, %v, not %v's", n, m, got, e, o)
		}
	}
	answers(t, w.f, reading(2, 0, math.MaxInt), answer{b: text[:n]})
	w.do(t, resizing(2, 35328))
	answers(t, w.f, reading(2, 0, math.MaxInt), answer{b: append(text[:n:n], zeros(35328-n)...)})
}

// P15.1, Resize: the bytes after the size are zero in the block itself; those ahead of it are as they were, and so is each other block.
func TestResizeTail(t *testing.T) {
	t.Parallel()
	for _, base := range []int{0, 256, 2304, 2560, 35072} {
		for k := 1; k < 256; k += 1 + k%5 {
			w := twinOf(t, with(256, 35328, 60, long()...))
			does(t, "Resize", Resize(w.f, 2, base+k), api.OK)
			for i, n := range long()[:base/256+1] {
				want := text(256*i, 256)
				if i == base/256 {
					clear(want[k:])
				}
				if b, e := w.f.S.Get(n); !bytes.Equal(b, want) || e != api.OK {
					t.Fatalf("resized to %d: block %d is %x, %v", base+k, i, b, e)
				}
			}
			w.p.resize(2, base+k)
			w.holds(t)
		}
	}
	// The bytes after n become zero also where the size was not ahead of them: whatever had left them there.
	w := twinOf(t, with(128, 100, 0, 70))
	w.spoil(t, 70, text(0, 256))
	does(t, "Resize", Resize(w.f, 2, 200), api.OK)
	answers(t, w.f, resizing(2, 256), answer{})
	answers(t, w.f, reading(2, 0, 300), answer{b: append(text(0, 200), zeros(56)...)})
}

// P15.1, Resize: a hole at the end stays one, among the direct blocks and in the map, with a map and without.
func TestResizeHole(t *testing.T) {
	for _, p := range []plain{with(128, 600, 0), with(128, 35328, 0), with(128, 35328, 60, holes(137, 70)...), with(128, 35000, 60, append([]int{70}, holes(100, 71)...)...)} {
		for _, n := range []int{1, 255, 257, 300, 511, 513, 599, 2305, 2559, 2561, 3000, 9000, 35071} {
			w := twinOf(t, p)
			w.do(t, resizing(2, n))
			w.holds(t)
			if at, e := fmap.At(w.f, 2, n/256); at != p.all(2)[n/256] || e != api.OK {
				t.Fatalf("block %d is at %d, %v", n/256, at, e)
			}
			w.do(t, resizing(2, 35328))
			w.holds(t)
		}
	}
}

// P15.1, Resize: just what must be changed is, and the block of the table always.
func TestResizeAlone(t *testing.T) {
	for _, c := range []struct {
		p    plain
		n    int
		want []int
		free []int
	}{
		{with(128, 300, 0, 70, 71), 300, []int{}, nil}, {with(128, 300, 0, 70, 71), 301, []int{43}, nil}, {with(128, 300, 0, 70, 71), 35328, []int{43}, nil}, {with(128, 300, 0, 70, 71), 299, []int{43, 71}, nil},
		{with(128, 300, 0, 70, 71), 257, []int{43, 71}, nil}, {with(128, 300, 0, 70, 71), 256, []int{43, 64, 65}, []int{71}}, {with(128, 300, 0, 70, 71), 1, []int{43, 64, 65, 70}, []int{71}},
		{with(128, 300, 0, 70, 71), 0, []int{43, 64, 65}, []int{70, 71}}, {with(128, 3000, 60, holes(10, 70, 71)...), 2816, []int{43, 60, 64, 65}, []int{71}}, {with(128, 3000, 0), 100, []int{43}, nil},
		{with(128, 3000, 60, holes(10, 70, 71)...), 2560, []int{1, 2, 43, 64, 65}, []int{60, 70, 71}}, {with(128, 3000, 60, holes(10, 70, 71)...), 2561, []int{43, 60, 64, 65, 70}, []int{71}},
	} {
		w := twinOf(t, c.p)
		was := w.picture()
		w.do(t, resizing(2, c.n))
		w.holds(t)
		if got := w.changed(was); !slices.Equal(got, c.want) {
			t.Fatalf("resized to %d: %v are changed, not %v", c.n, got, c.want)
		}
		for _, n := range c.free {
			if o, _ := space.Owner(w.f.S, n); o != unowned {
				t.Fatalf("resized to %d: block %d is %v's", c.n, n, o)
			}
		}
		if used, _ := c.p.count(128); true {
			w.used(t, used-len(c.free))
		}
	}
}

// P15.2: a block that was another file's, or this one's before it was cut off, reads as zeros where nothing was written since.
func TestZeroAgain(t *testing.T) {
	p := with(64, 1500, 49, 50, 51, 52, 53, 54, 55)
	p.placeMap(8, 56)
	p.place(8, 20, 57)
	p.sized(8, 5376)
	w := twinOf(t, p)
	w.do(t, resizing(2, 0))
	w.do(t, resizing(8, 0))
	w.used(t, 6)
	for _, ino := range []int{8, 2} {
		for _, at := range []int{100, 700, 35300} {
			w.do(t, writing(ino, at, []byte{9}))
		}
		got, _ := Read(w.f, ino, 0, 35328)
		want := zeros(35301)
		want[100], want[700], want[35300] = 9, 9, 9
		if !bytes.Equal(got, want) {
			t.Fatalf("something of before is in inode %d", ino)
		}
		w.used(t, 10)
		w.holds(t)
		w.do(t, resizing(ino, 0))
	}
	// Cut off, and longer again: by Resize, and by Write, in the same block, in the next one, and far off.
	for _, n := range []int{0, 1, 100, 255, 256, 257, 511, 512, 1000} {
		for _, at := range []int{n, n + 1, n + 50, n + 256, n + 2000} {
			w = twinOf(t, with(128, 1500, 0, 70, 71, 72, 73, 74, 75))
			w.do(t, resizing(2, n))
			w.do(t, writing(2, at, []byte("x")))
			answers(t, w.f, reading(2, 0, 9999), answer{b: slices.Concat(text(0, n), zeros(at-n), []byte("x"))})
			w.do(t, resizing(2, n))
			w.do(t, resizing(2, n+3000))
			answers(t, w.f, reading(2, 0, 9999), answer{b: append(text(0, n), zeros(3000)...)})
			w.holds(t)
		}
	}
}

// P15.2: a block is used just if something was written into it since it was a hole, and a map just if it has one of these.
func TestUsed(t *testing.T) {
	w := twinOf(t, fresh(256))
	for _, c := range []struct {
		a    action
		want []int // the blocks of inode 2
	}{
		{resizing(2, 35328), nil}, {resizing(2, 600), nil}, {writing(2, 0, nil), nil}, {writing(2, 255, []byte{0}), []int{0}}, {writing(2, 255, []byte{0, 0}), []int{0, 1}}, {writing(2, 1300, text(0, 1024)), []int{0, 1, 5, 6, 7, 8, 9}},
		{resizing(2, 9999), []int{0, 1, 5, 6, 7, 8, 9}}, {writing(2, 35327, []byte{0}), []int{0, 1, 5, 6, 7, 8, 9, 137}}, {writing(2, 35328, []byte{0}), []int{0, 1, 5, 6, 7, 8, 9, 137}}, {resizing(2, 35072), []int{0, 1, 5, 6, 7, 8, 9}},
		{resizing(2, 1793), []int{0, 1, 5, 6, 7}}, {resizing(2, 1792), []int{0, 1, 5, 6}}, {resizing(2, 1791), []int{0, 1, 5, 6}}, {resizing(2, 35328), []int{0, 1, 5, 6}}, {writing(2, 2600, zeros(1024)), []int{0, 1, 5, 6, 10, 11, 12, 13, 14}},
		{writing(2, 200, zeros(1024)), []int{0, 1, 2, 3, 4, 5, 6, 10, 11, 12, 13, 14}}, {resizing(2, 1), []int{0}}, {resizing(2, 0), nil},
	} {
		w.do(t, c.a)
		w.holds(t)
		want := 6 + len(c.want)
		if len(c.want) > 0 && c.want[len(c.want)-1] >= 10 {
			want++
		}
		w.used(t, want)
		for i := range 138 {
			n, _ := fmap.At(w.f, 2, i)
			if (n > 0) != slices.Contains(c.want, i) {
				t.Fatalf("%s: block %d is at %d", c.a.call, i, n)
			}
			if o, _ := space.Owner(w.f.S, n); n > 0 && o != (api.Owner{Ino: 2, At: uint16(i)}) {
				t.Fatalf("%s: block %d is %v's", c.a.call, i, o)
			}
		}
		w.next(t, true)
	}
}

// P15.1, Write: no space at each place of a Write: ErrNoSpace, what was changed before it remains, and behind End(false) all is as it was.
func TestNoSpace(t *testing.T) {
	for free := range 8 {
		for _, at := range []int{0, 255, 600, 1700, 2304, 2559, 2560, 5000, 34304} {
			for _, n := range []int{1, 2, 256, 300, 1000, 1024, 3000} {
				p := with(128, 700, 0, 70, 0, 71)
				p.occupy([]int{90, 91, 62, 127, 50, 51, 100, 101}[:free]...)
				w := twinOf(t, p)
				was := w.picture()
				want := w.p.follow(writing(2, at, text(3, n)))
				answers(t, w.f, writing(2, at, text(3, n)), want)
				w.holds(t)
				w.do(t, reading(2, 0, math.MaxInt))
				if want.e != api.OK {
					does(t, "Write", want.e, api.ErrNoSpace)
					if w.p.left() != 0 || w.p.nodes[2].Size != 700 {
						t.Fatalf("%d blocks are left, the size is %d", w.p.left(), w.p.nodes[2].Size)
					}
				}
				w.undo(t, p)
				w.unchanged(t, was)
				w.holds(t)
			}
		}
	}
	// What was stored ahead of the error is there.
	p := with(128, 300, 0, 70, 71)
	p.occupy(90)
	w := twinOf(t, p)
	refused(t, w.f, writing(2, 250, text(0, 1000)), api.ErrNoSpace)
	if b, _ := w.f.S.Get(90); !bytes.Equal(b, text(262, 256)) {
		t.Fatalf("block 90 is %x", b)
	}
	answers(t, w.f, reading(2, 0, 1000), answer{b: slices.Concat(text(0, 250), text(0, 50))})
	answers(t, w.f, resizing(2, 0), answer{})
	w.p.cut(2, 0)
	if used, _ := p.count(128); true {
		w.used(t, used-2)
	}
}

// P15.1, Write: where no block is free, what needs none goes on, and all else changes nothing.
func TestNoneFree(t *testing.T) {
	p := with(256, 2900, 60, long()[:11]...)
	p.occupy()
	w := twinOf(t, p)
	was := w.picture()
	for _, a := range []action{writing(2, 2816, []byte{1}), writing(2, 35327, []byte{1}), writing(8, 0, []byte{1}), writing(47, 5000, text(0, 1024))} {
		refused(t, w.f, a, api.ErrNoSpace)
	}
	w.unchanged(t, was)
	for _, a := range []action{writing(2, 2000, text(7, 816)), writing(2, 0, text(7, 1024)), writing(8, 0, nil), resizing(8, 35328), resizing(2, 35328), reading(2, 0, 35328), resizing(2, 2560), writing(8, 300, []byte{1})} {
		w.do(t, a)
		w.holds(t)
	}
	w.do(t, writing(8, 0, []byte{1, 2}))
	refused(t, w.f, writing(8, 512, []byte{1, 2}), api.ErrNoSpace)
	w.holds(t)
}

// P15.1, Write: while the file system shrinks blocks are taken below the end that is to be, and what is used beyond counts.
func TestShrinking(t *testing.T) {
	p := with(192, 512, 0, 150, 151)
	p.s.State, p.s.Target = 2, 64
	w := twinOf(t, p)
	w.do(t, writing(2, 500, text(0, 1024)))
	w.holds(t)
	for i := 2; i < 6; i++ {
		if n, _ := fmap.At(w.f, 2, i); n != 47+i {
			t.Fatalf("block %d is at %d", i, n)
		}
	}
	w.do(t, writing(2, 2000, text(0, 1024)))
	w.do(t, writing(8, 0, text(0, 256)))
	if w.p.left() != 1 {
		t.Fatalf("%d blocks are left", w.p.left())
	}
	ahead := w.p.clone()
	w.next(t, true)
	refused(t, w.f, writing(8, 255, text(0, 300)), api.ErrNoSpace)
	w.p.write(8, 255, text(0, 300))
	w.holds(t)
	w.undo(t, ahead)
	w.do(t, writing(8, 255, text(0, 2)))
	refused(t, w.f, writing(2, 1536, text(0, 1)), api.ErrNoSpace)
	w.do(t, resizing(2, 257))
	w.do(t, writing(2, 1536, text(0, 100)))
	w.holds(t)
}

// P15.1: a symbolic link has at most MaxTarget bytes: a greater size is the ErrArg of layer 13, behind what was stored.
func TestLinkSize(t *testing.T) {
	w := twinOf(t, fresh(128))
	for _, a := range []action{
		writing(3, 0, text(0, 200)), resizing(3, 100), resizing(3, 200), writing(3, 199, text(0, 1)), writing(3, 0, nil), reading(3, 0, 300), resizing(3, 201), resizing(3, 35328), reading(3, 0, 300),
		writing(3, 199, text(0, 2)), writing(3, 200, text(0, 1)), writing(3, 35327, text(0, 1)), writing(3, 35328, nil), reading(3, 0, 300), resizing(3, 0), writing(3, 1, text(0, 100)), reading(3, 0, 300),
	} {
		w.do(t, a)
		w.holds(t)
	}
	refused(t, w.f, resizing(3, 201), api.ErrArg)
	refused(t, w.f, writing(3, 150, text(0, 51)), api.ErrArg)
	refused(t, w.f, writing(3, 35327, text(0, 2)), api.ErrFBig)
	refused(t, w.f, resizing(3, 35329), api.ErrFBig)
}

// everything returns calls of all three kinds on inode 2.
func everything() []action {
	return []action{
		reading(2, 0, 300), reading(2, 0, 0), reading(2, 9999, 1), reading(2, 2560, math.MaxInt), writing(2, 0, []byte("a")), writing(2, 300, text(0, 1024)), writing(2, 5000, []byte("a")), writing(2, 0, nil), resizing(2, 0),
		resizing(2, 100), resizing(2, 35328),
	}
}

// wrong returns calls of all three kinds with wrong numbers.
func wrong(ino int) []action {
	return []action{
		reading(ino, -1, 1), reading(ino, 1, -1), reading(ino, math.MinInt, math.MaxInt), writing(ino, -1, []byte("a")), writing(ino, -1, nil), writing(ino, 35328, []byte("a")), writing(ino, 35329, nil), resizing(ino, -1),
		resizing(ino, 35329), resizing(ino, math.MinInt),
	}
}

// P15.1: block 0 or the inode's block of the table is not what it should be: ErrClean ahead of what is wrong with the other arguments; nothing is changed.
func TestNoTable(t *testing.T) {
	w := twinOf(t, with(128, 3000, 60, 70, 0, 71, 0, 0, 0, 0, 0, 0, 0, 73))
	damaged := slices.Clone(w.p.blocks()[43])
	damaged[32*5] = 4
	larger := slices.Clone(w.p.blocks()[43])
	larger[32*2+4] = 1
	other, _ := pack.Seal([]byte("ashlar 2"))
	for _, c := range []struct {
		n int
		b []byte
	}{{0, filled(1)}, {0, zeros(256)}, {0, other}, {0, w.p.blocks()[1]}, {43, filled(1)}, {43, damaged}, {43, larger}, {43, w.p.blocks()[0]}} {
		w.spoil(t, c.n, c.b)
		was := w.picture()
		for _, a := range slices.Concat(everything(), wrong(2), wrong(4)) {
			refused(t, w.f, a, api.ErrClean)
		}
		for _, ino := range []int{math.MinInt, -1, 0, 48} {
			for _, a := range append(wrong(ino), reading(ino, 0, 1), writing(ino, 0, []byte("a")), resizing(ino, 0)) {
				refused(t, w.f, a, api.ErrArg)
			}
		}
		w.unchanged(t, was)
		if c.n > 0 {
			w.do(t, writing(8, 2559, []byte("ab")))
			w.do(t, reading(8, 0, 5000))
			w.do(t, resizing(8, 0))
		}
		w.undo(t, w.p)
		w.holds(t)
	}
}

// P15.1: the map's block is none: ErrClean from each call that reaches it, with what was stored ahead of it; what reaches direct blocks alone goes on.
func TestNoMap(t *testing.T) {
	p := with(128, 3000, 60, 0, 70, 0, 0, 0, 0, 0, 0, 71, 72, 73)
	w := twinOf(t, p)
	for _, b := range [][]byte{filled(1), filled(77), slices.Repeat([]byte{0xff}, 256), slices.Repeat([]byte{0, 3}, 128), append(zeros(255), 3)} {
		w.spoil(t, 60, b)
		was := w.picture()
		for _, a := range []action{
			reading(2, 2560, 1), reading(2, 2559, 2), reading(2, 0, math.MaxInt), reading(2, 2999, 9), writing(2, 2560, []byte("a")), writing(2, 35327, []byte("a")), resizing(2, 0), resizing(2, 100), resizing(2, 2560),
			resizing(2, 3000), resizing(2, 35328),
		} {
			refused(t, w.f, a, api.ErrClean)
		}
		// What is wrong with the arguments needs no map.
		for _, a := range wrong(2) {
			want := api.ErrArg
			if a.n > 0 && a.call == "Resize" || a.at > 0 && a.call == "Write" {
				want = api.ErrFBig
			}
			refused(t, w.f, a, want)
		}
		w.unchanged(t, was)
		for _, a := range []action{reading(2, 0, 2560), reading(2, 2559, 1), reading(2, 3000, 10), reading(2, 2700, 0), writing(2, 2700, nil), writing(2, 2000, text(9, 560)), writing(2, 0, text(9, 1024))} {
			answers(t, w.f, a, w.p.follow(a))
		}
		refused(t, w.f, writing(2, 2500, text(5, 1024)), api.ErrClean)
		w.p.write(2, 2500, text(5, 60))
		w.spoil(t, 60, w.p.bytes[60])
		w.holds(t)
		w.undo(t, p)
	}
	// The map is beyond the disk: the error of the store.
	w.p.nodes[2].Map = 700
	w.lay(t)
	for _, a := range []action{reading(2, 2560, 1), writing(2, 2560, []byte("a")), resizing(2, 0), resizing(2, 3000)} {
		refused(t, w.f, a, api.ErrArg)
	}
	answers(t, w.f, reading(2, 300, 10), answer{b: text(300, 10)})
	answers(t, w.f, reading(2, 3000, 10), answer{})
}

// notOwners returns the descriptor and the owners' page of group g, one of them not what it should be.
func notOwners(p plain, g int) [][2][]byte {
	desc, page := p.blocks()[geom.Desc(g)], p.blocks()[geom.Owners(g)]
	other := slices.Clone(p.owners[64*g : 64*g+64])
	for k, o := range other {
		if o == unowned {
			other[k] = api.Owner{Ino: 3}
		}
	}
	of, _ := group.Of(g, other)
	full, _ := group.Encode(of)
	malformed := slices.Clone(page)
	malformed[254], malformed[255] = 99, 99
	return [][2][]byte{{filled(1), page}, {zeros(256), page}, {full, page}, {desc, filled(1)}, {desc, zeros(256)}, {desc, malformed}, {page, desc}}
}

// P15.1: a group's descriptor or owners' page is not what it should be: ErrClean from what takes or frees a block, with what was changed ahead of it; all else goes on.
func TestNoOwners(t *testing.T) {
	p := with(192, 3500, 60, 61, 70, 0, 140, 141, 0, 0, 0, 0, 71, 62, 142, 72)
	w := twinOf(t, p)
	// The blocks that are cut ahead of the first one in that group.
	for g, ahead := range []int{0, 1, 3} {
		for _, b := range notOwners(p, g) {
			w.spoil(t, geom.Desc(g), b[0])
			w.spoil(t, geom.Owners(g), b[1])
			was := w.picture()
			for _, a := range []action{writing(2, 512, []byte("a")), writing(2, 767, text(0, 500)), writing(2, 35327, []byte("a")), writing(8, 0, []byte("a")), writing(3, 5000, []byte("a"))} {
				refused(t, w.f, a, api.ErrClean)
			}
			w.unchanged(t, was)
			for _, a := range []action{reading(2, 0, 9999), writing(2, 0, text(5, 512)), writing(2, 2304, text(5, 1024)), writing(2, 512, nil), resizing(2, 3400), resizing(2, 35328), resizing(2, 3200), reading(2, 0, 9999)} {
				w.do(t, a)
			}
			refused(t, w.f, writing(2, 300, text(1, 300)), api.ErrClean)
			answers(t, w.f, reading(2, 300, 400), answer{b: append(text(1, 212), zeros(188)...)})
			refused(t, w.f, resizing(2, 0), api.ErrClean)
			list, _ := fmap.Blocks(w.f, 2)
			if want := append(zeroLocations(ahead), p.all(2)[ahead:13]...); !slices.Equal(list, want) {
				t.Fatalf("group %d: %v, not %v", g, list, want)
			}
			if node, _ := w.f.Get(2); node.Size != 3200 {
				t.Fatalf("group %d: the size is %d", g, node.Size)
			}
			w.undo(t, p)
			w.holds(t)
		}
	}
}

func zeroLocations(n int) []int { return make([]int, n) }

// P15.1: a location of what is no used open block: Read and Write take it as it is, cutting it is the ErrArg of layer 12, with what was cut ahead of it.
func TestStray(t *testing.T) {
	for _, n := range []int{100, 127, 49, 42, 63, 64} {
		for _, i := range []int{0, 1, 9, 10, 12} {
			w := twinOf(t, with(128, 3300, 60, 70, 71, 72, 0, 0, 0, 0, 0, 74, 75, 76, 0, 78))
			does(t, "Set", fmap.Set(w.f, 2, i, n), api.OK)
			w.p.locate(2, i, n)
			was, _ := w.f.S.Get(n)
			answers(t, w.f, reading(2, 256*i, 200), answer{b: was[:min(200, 3300-256*i)]})
			if !fixedAt(n) {
				w.do(t, writing(2, 256*i+30, text(1, 40)))
				if b, _ := w.f.S.Get(n); !bytes.Equal(b, slices.Concat(was[:30], text(1, 40), was[70:])) {
					t.Fatalf("block %d is %x", n, b)
				}
			}
			w.do(t, resizing(2, 256*i+256))
			w.holds(t)
			refused(t, w.f, resizing(2, 0), api.ErrArg)
			w.p.resize(2, 0)
			w.holds(t)
			if node, _ := w.f.Get(2); node.Size != 256*i+256 {
				t.Fatalf("the size is %d", node.Size)
			}
		}
	}
}

// P15.1: a location beyond the disk: the error of the store, with what was stored or cut ahead of it.
func TestBeyondTheDisk(t *testing.T) {
	for _, i := range []int{0, 1, 9, 10, 12} {
		p := with(128, 3328, 60, 70, 71, 72, 0, 0, 0, 0, 0, 74, 75, 76, 0, 78)
		w := twinOf(t, p)
		does(t, "Set", fmap.Set(w.f, 2, i, 128+i), api.OK)
		was := w.picture()
		begin := 256 * i
		for _, a := range []action{reading(2, begin, 1), reading(2, begin+255, 1), reading(2, max(0, begin-1), 300), reading(2, 0, 9999), writing(2, begin, []byte("a")), writing(2, begin+255, []byte("a"))} {
			refused(t, w.f, a, api.ErrArg)
		}
		w.unchanged(t, was)
		w.do(t, reading(2, begin+256, 100))
		if i > 0 {
			w.do(t, reading(2, begin-256, 256))
			refused(t, w.f, writing(2, begin-5, text(9, 100)), api.ErrArg)
			answers(t, w.f, reading(2, begin-5, 5), answer{b: text(9, 5)})
		}
		refused(t, w.f, resizing(2, begin+100), api.ErrArg)
		if node, _ := w.f.Get(2); node.Size != 3328 {
			t.Fatalf("the size is %d", node.Size)
		}
		if list, _ := fmap.Blocks(w.f, 2); i < 12 && len(list) != i+1 {
			t.Fatalf("the blocks are %v", list)
		}
		refused(t, w.f, resizing(2, 0), api.ErrArg)
		w.undo(t, p)
		w.holds(t)
	}
}

// P15.1: of several errors the one that the chapters name first.
func TestErrorOrder(t *testing.T) {
	p := with(128, 3000, 60, 70, 0, 0, 0, 0, 0, 0, 0, 0, 0, 73)
	p.occupy()
	w := twinOf(t, p)
	for _, ino := range []int{0, 4, 48} {
		for _, a := range wrong(ino) {
			refused(t, w.f, a, api.ErrArg)
		}
	}
	w.spoil(t, 64, filled(1))
	for _, a := range []action{reading(2, -1, -1), reading(2, -1, 0), reading(2, 0, -1), reading(2, math.MaxInt, -1), writing(2, -1, nil), writing(2, -1, text(0, 5000)), writing(2, math.MinInt, []byte("a")), resizing(2, -1)} {
		refused(t, w.f, a, api.ErrArg)
	}
	for _, a := range []action{writing(2, 35328, []byte("a")), writing(2, 34305, text(0, 5000)), writing(2, 35329, nil), resizing(2, 35329), resizing(2, math.MaxInt)} {
		refused(t, w.f, a, api.ErrFBig)
	}
	refused(t, w.f, writing(2, 300, []byte("a")), api.ErrClean)
	w.spoil(t, 64, p.blocks()[64])
	refused(t, w.f, writing(2, 300, []byte("a")), api.ErrNoSpace)
	w.end(t, true)
	refused(t, w.f, writing(2, 300, []byte("a")), api.ErrNoSpace)
	refused(t, w.f, writing(2, 0, []byte("a")), api.ErrBusy)
	refused(t, w.f, writing(2, 35328, []byte("a")), api.ErrFBig)
}

// R1: a nil file system, one on a nil store, and one on a store without a disk, whatever the arguments.
func TestNil(t *testing.T) {
	var none *table.FS
	for _, f := range []*table.FS{none, {}, table.New(nil), {S: &store.Store{}}} {
		for _, ino := range inos {
			for k, at := range offsets {
				n := offsets[len(offsets)-1-k]
				refused(t, f, reading(ino, at, n), api.ErrArg)
				refused(t, f, writing(ino, at, text(0, k)), api.ErrArg)
				refused(t, f, writing(ino, at, nil), api.ErrArg)
				refused(t, f, resizing(ino, n), api.ErrArg)
			}
		}
	}
}

// P15.1: outside of a call what would change something returns ErrBusy, and changes nothing; all else goes as within.
func TestOutside(t *testing.T) {
	w := twinOf(t, with(128, 3000, 60, 70, 71, 0, 0, 0, 0, 0, 0, 0, 0, 73))
	w.end(t, true)
	was := w.picture()
	for _, a := range []action{
		writing(2, 0, []byte("a")), writing(2, 600, []byte("a")), writing(2, 2559, []byte("ab")), writing(2, 2560, text(0, 1024)), writing(2, 3000, []byte("a")), writing(8, 0, []byte("a")), writing(8, 35327, []byte("a")),
		resizing(2, 0), resizing(2, 100), resizing(2, 300), resizing(2, 2999), resizing(2, 3001), resizing(2, 35328), resizing(2, 3000), resizing(8, 0), resizing(8, 1),
	} {
		refused(t, w.f, a, api.ErrBusy)
	}
	for _, a := range slices.Concat(wrong(2), wrong(4), []action{reading(2, 0, 9999), reading(2, 255, 2), reading(8, 0, 1), writing(2, 600, nil), writing(8, 35328, nil), reading(2, 2999, math.MaxInt), resizing(4, 0)}) {
		w.do(t, a)
	}
	w.unchanged(t, was)
	if w.f.S.Dirty() != 0 || w.f.S.Within() {
		t.Fatal("a call outside changes something")
	}
}

// P15.1: a store that is over returns ErrIO for each call on a number that can be an inode's.
func TestOver(t *testing.T) {
	w := twinOf(t, with(128, 3000, 60, 70, 0, 0, 0, 0, 0, 0, 0, 0, 0, 73))
	w.do(t, writing(2, 500, text(0, 500)))
	w.end(t, true)
	w.d.SetFuse(0)
	does(t, "Sync", w.f.S.Sync(), api.ErrIO)
	for range 2 {
		for _, a := range slices.Concat(everything(), wrong(2), wrong(4)) {
			refused(t, w.f, a, api.ErrIO)
		}
		for _, a := range wrong(0) {
			refused(t, w.f, a, api.ErrArg)
		}
	}
}

// P15.1: without power the first block that is read from the disk is ErrIO, and the store is over, also behind changes.
func TestNoPower(t *testing.T) {
	p := with(192, 3000, 60, 70, 140, 0, 0, 0, 0, 0, 0, 0, 0, 73)
	all := []int{0, 1, 2, 43, 60, 64, 65, 70, 73, 128, 129, 140}
	for _, c := range []struct {
		action
		reads []int // in the order in which they are read first
	}{
		{reading(2, 0, 300), []int{0, 43, 70, 140}}, {reading(2, 2560, 9), []int{0, 43, 60, 73}}, {reading(2, 600, 2), []int{0, 43}}, {reading(2, 5000, 2), []int{0, 43}}, {writing(2, 0, text(0, 300)), []int{0, 43, 70, 140}},
		{writing(2, 255, text(0, 300)), []int{0, 43, 70, 140, 1, 2, 64, 65, 128, 129}}, {writing(2, 2559, text(0, 300)), []int{0, 43, 1, 2, 64, 65, 128, 129, 60, 73}}, {writing(2, 0, nil), []int{0, 43}},
		{resizing(2, 0), []int{0, 43, 60, 64, 65, 128, 129, 1, 2}}, {resizing(2, 100), []int{0, 43, 60, 128, 129, 64, 65, 1, 2, 70}}, {resizing(2, 35328), []int{0, 43, 60}}, {resizing(2, 2700), []int{0, 43, 60, 73}},
	} {
		for k, missing := range c.reads {
			w := twinOf(t, p)
			for _, n := range all {
				if !slices.Contains(c.reads[k:], n) {
					w.spoil(t, n, p.blocks()[n])
				}
			}
			w.d.SetFuse(0)
			w.d.Flush()
			refused(t, w.f, c.action, api.ErrIO)
			if !w.f.S.Over() {
				t.Fatalf("%+v without block %d: not over", c.action, missing)
			}
			for _, a := range everything() {
				refused(t, w.f, a, api.ErrIO)
			}
		}
		// What reads nothing else from the disk meets no error yet.
		w := twinOf(t, p)
		for _, n := range c.reads {
			w.spoil(t, n, p.blocks()[n])
		}
		w.d.SetFuse(0)
		w.d.Flush()
		w.do(t, c.action)
		w.end(t, true)
		does(t, "Sync", w.f.S.Sync(), api.ErrIO)
	}
}

// P15.1: a call that has no room left: the store's ErrNoSpace, with what was changed before, and End(false) undoes it.
func TestNoRoom(t *testing.T) {
	p := with(128, 3000, 60, 70, 71, 0, 0, 0, 0, 0, 0, 0, 0, 73, 75)
	for _, c := range []struct {
		action
		puts []int // in the order in which they are changed first
	}{
		{writing(2, 0, text(9, 1)), []int{70}}, {writing(2, 250, text(9, 100)), []int{70, 71}}, {writing(2, 400, text(9, 400)), []int{71, 65, 64, 72, 43, 74}}, {writing(2, 2900, text(9, 100)), []int{75}},
		{writing(2, 2900, text(9, 101)), []int{75, 43}}, {writing(2, 2900, text(9, 300)), []int{75, 65, 64, 76, 60, 43}}, {writing(8, 5000, text(9, 1)), []int{2, 1, 49, 44, 50}}, {resizing(2, 2999), []int{75, 43}},
		{resizing(2, 9999), []int{43}}, {resizing(2, 300), []int{65, 64, 60, 2, 1, 43, 71}}, {resizing(2, 2560), []int{65, 64, 60, 2, 1, 43}}, {resizing(2, 2561), []int{65, 64, 60, 73, 43}}, {writing(2, 99, nil), nil},
	} {
		for left := range 9 {
			w := twinOf(t, p)
			for k := range 37 - left {
				w.spoil(t, 3+k, zeros(256))
			}
			was := w.picture()
			if left >= len(c.puts) {
				w.do(t, c.action)
				w.holds(t)
			} else {
				refused(t, w.f, c.action, api.ErrNoSpace)
				for n, b := range w.picture() {
					if put := slices.Contains(c.puts[:left], n); bytes.Equal(was[n], b) == put {
						t.Fatalf("%+v with room for %d: block %d", c, left, n)
					}
				}
			}
			w.undo(t, p)
			w.holds(t)
			w.unchanged(t, p.blocks())
		}
	}
}

// P15.1: what was changed before an error remains.
func TestRemains(t *testing.T) {
	w := twinOf(t, fresh(64))
	for k, a := range []action{writing(2, 100, text(0, 300)), writing(2, 3000, text(0, 9)), writing(8, 0, text(0, 1024)), resizing(8, 600), resizing(2, 35328), writing(2, 35000, text(0, 328)), resizing(2, 2000)} {
		w.do(t, a)
		for _, bad := range slices.Concat(wrong(2), wrong(4), wrong(0)) {
			was := w.picture()
			w.do(t, bad)
			w.unchanged(t, was)
		}
		w.holds(t)
		if k%2 == 1 {
			w.next(t, true)
		}
	}
	w.holds(t)
}

// changeAll makes all kinds of changes.
func changeAll(t *testing.T, w *twin) {
	t.Helper()
	for _, a := range []action{
		writing(2, 100, text(4, 300)), writing(3, 0, text(4, 200)), writing(8, 2500, text(4, 1024)), resizing(2, 150), writing(2, 35300, text(4, 28)), resizing(8, 2700), resizing(3, 20), writing(47, 0, []byte("a")), resizing(1, 0),
		reading(2, 0, 35328), resizing(47, 20000),
	} {
		w.do(t, a)
	}
	w.holds(t)
}

// P15.1: what a call did is undone by End(false), and stays behind End(true), Sync and a crash.
func TestUndoneAndKept(t *testing.T) {
	w := twinOf(t, scattered(192, 5, 20))
	was := w.p.clone()
	for _, keep := range []bool{false, true} {
		changeAll(t, w)
		changed := w.p
		w.end(t, keep)
		if !keep {
			w.p = was.clone()
			w.unchanged(t, was.blocks())
		}
		w.holds(t)
		for _, ino := range inUse {
			w.do(t, reading(ino, 0, 35328))
		}
		// Not durable: a crash undoes it either way.
		w.d.Crash([]bool{true})
		w.p = was.clone()
		w.open(t).holds(t)
		changeAll(t, w)
		if !changed.equal(w.p) {
			t.Fatal("the same calls do something else")
		}
		w.end(t, keep)
		does(t, "Sync", w.f.S.Sync(), api.OK)
		w.d.Crash(nil)
		if !keep {
			w.p = was.clone()
		}
		w.open(t).holds(t)
		for _, ino := range inUse {
			w.do(t, reading(ino, 0, 35328))
		}
	}
}

// P15.1: the power failing at each change of several calls and Syncs: ErrIO, and behind a crash all of a call is there or nothing.
func TestPowerFails(t *testing.T) {
	t.Parallel()
	for _, keep := range [][]bool{nil, {true}, {true, false}, {false, true, true}} {
		for fuse, failed := 0, true; failed; fuse++ {
			w := twinOf(t, with(128, 3000, 60, 70, 71, 0, 0, 0, 0, 0, 0, 0, 0, 73))
			w.d.SetFuse(fuse)
			before := w.p.clone()
			failed = false
			for k := 0; k < 4 && !failed; k++ {
				before = w.p.clone()
				for _, a := range []action{writing(8, 700*k, text(k, 1000)), writing(2, 2500-100*k, text(k, 300)), resizing(2, 2900-700*k), resizing(8, 700*k+500), reading(8, 0, 9999)} {
					w.do(t, a)
				}
				w.end(t, true)
				if failed = w.f.S.Sync() != api.OK; failed {
					for _, a := range everything() {
						refused(t, w.f, a, api.ErrIO)
					}
				} else {
					does(t, "Begin", w.f.S.Begin(), api.OK)
				}
			}
			w.d.Crash(keep)
			w.open(t)
			if failed && w.odd() >= 0 {
				w.p = before
			}
			w.holds(t)
			w.do(t, reading(8, 0, 9999))
			w.do(t, writing(8, 9000, text(0, 1024)))
			w.holds(t)
		}
	}
}

// draw returns a call, with arguments that are wrong now and then, and how many blocks it changes at most in that many groups.
func (l *lots) draw(far bool, groups int) (action, int) {
	ino, at := l.pick(inUse), l.below(4000)
	if far {
		at = l.below(35329)
	}
	if l.below(15) == 0 {
		ino = l.pick(inos)
	}
	if l.below(15) == 0 {
		at = l.pick(offsets)
	}
	switch k := l.below(20); {
	case k < 10:
		n := 1 + l.below(300)
		if l.below(4) == 0 {
			n = l.pick(lengths)
		}
		return writing(ino, at, text(l.below(999), n)), 13
	case k < 14:
		return resizing(ino, at), 2*groups + 3
	case k < 16:
		return reading(ino, 0, math.MaxInt), 0
	}
	return reading(ino, at, l.below(1500)), 0
}

// lands makes the plain file system the one of these that the store has: the last one that does.
func (w *twin) lands(t *testing.T, ends []plain) {
	t.Helper()
	for _, p := range slices.Backward(ends) {
		w.p = p.clone()
		if w.odd() < 0 {
			return
		}
	}
	t.Fatal("no call has left that behind")
}

// P15.1, P15.2: long random sequences beside a plain file system, with much room and with little, and with calls that are undone, Syncs and crashes between.
func TestHistories(t *testing.T) {
	t.Parallel()
	for seed := range 10 {
		l, groups := lots(seed), []int{1, 2, 3, 5, 12}[seed%5]
		w := twinOf(t, scattered(64*groups, seed, 5*seed))
		// What the calls have left since the last Sync: a crash undoes the last ones of them.
		ends, room := []plain{w.p.clone()}, 37
		for i := range 1200 {
			a, most := l.draw(seed%2 == 0, groups)
			if room < most {
				w.next(t, true)
				ends, room = append(ends, w.p.clone()), 37
			}
			room -= most
			w.do(t, a)
			if i%40 == 0 {
				w.holds(t)
			}
			switch k := l.below(60); {
			case k < 3:
				w.undo(t, ends[len(ends)-1])
				room = 37
			case k < 5:
				w.end(t, true)
				does(t, "Sync", w.f.S.Sync(), api.OK)
				does(t, "Begin", w.f.S.Begin(), api.OK)
				ends, room = []plain{w.p.clone()}, 37
			case k < 6:
				w.d.Crash([]bool{true, false})
				w.open(t).lands(t, ends)
				ends, room = []plain{w.p.clone()}, 37
			}
		}
		w.end(t, true)
		does(t, "Sync", w.f.S.Sync(), api.OK)
		w.d.Crash(nil)
		w.open(t).holds(t)
	}
}

// array is a file as no more than its bytes, and for each block whether something was written into it since it was a hole.
type array struct {
	b     []byte
	holds [138]bool
}

// uses returns how many blocks the file uses, its map with them.
func (x array) uses() int {
	count, far := 0, 0
	for i, used := range x.holds {
		if used {
			count++
			if i >= 10 {
				far = 1
			}
		}
	}
	return count + far
}

// resized returns the file with n bytes.
func (x array) resized(n int) array {
	x.b = append(x.b[:min(n, len(x.b)):min(n, len(x.b))], make([]byte, max(0, n-len(x.b)))...)
	for i := range x.holds {
		x.holds[i] = x.holds[i] && 256*i < n
	}
	return x
}

// written returns the file with b from at on.
func (x array) written(at int, b []byte) array {
	if len(b) == 0 {
		return x
	}
	x = x.resized(max(len(x.b), at+len(b)))
	x.b = slices.Clone(x.b)
	copy(x.b[at:], b)
	for i := at / 256; i <= (at+len(b)-1)/256; i++ {
		x.holds[i] = true
	}
	return x
}

// P15.1, P15.2: long random sequences on several files beside plain arrays of bytes: there is no space just if more blocks would be used than there is room for.
func TestArrays(t *testing.T) {
	t.Parallel()
	for seed := range 5 {
		l, blocks := lots(100+seed), []int{64, 64, 128, 192, 768}[seed%5]
		w := twinOf(t, fresh(blocks))
		room, all, none := geom.Room(blocks), map[int]array{}, 0
		for range 900 {
			ino, at, n := l.pick(files), l.below(6000), 1+l.below(1500)
			if l.below(6) == 0 {
				at = l.below(35329)
			}
			count := min(n, 1024)
			ahead, uses := all[ino], 0
			for k := range all {
				uses += all[k].uses()
			}
			switch b := text(l.below(999), n); l.below(4) {
			case 0:
				all[ino] = ahead.resized(at)
				answers(t, w.f, resizing(ino, at), answer{})
			case 1:
				answers(t, w.f, reading(ino, at, n), answer{b: ahead.b[min(at, len(ahead.b)):min(at+n, len(ahead.b))]})
			default:
				want, e := ahead, api.ErrFBig
				if at+count <= 35328 {
					want, e = ahead.written(at, b[:count]), api.OK
				}
				if uses-ahead.uses()+want.uses() > room {
					want, e = ahead, api.ErrNoSpace
					none++
				}
				if all[ino] = want; e != api.OK {
					count = 0
				}
				answers(t, w.f, writing(ino, at, b), answer{n: count, e: e})
				if e != api.OK {
					w.next(t, false)
				}
			}
			w.next(t, true)
			answers(t, w.f, reading(ino, 0, math.MaxInt), answer{b: all[ino].b})
			w.used(t, 6+uses-ahead.uses()+all[ino].uses())
		}
		if blocks == 64 && none == 0 || blocks == 768 && none > 0 {
			t.Fatalf("%d blocks: there is no space %d times", blocks, none)
		}
		for _, ino := range files {
			for i := range 138 {
				if n, _ := fmap.At(w.f, ino, i); (n > 0) != all[ino].holds[i] {
					t.Fatalf("block %d of %d is at %d", i, ino, n)
				}
			}
		}
	}
}

// R3: the bytes that are written are neither changed nor kept, with their spare capacity.
func TestApartFromArguments(t *testing.T) {
	w := twinOf(t, fresh(128))
	for _, n := range []int{0, 1, 256, 300, 1024, 1025, 3000} {
		whole := text(n, n+500)
		b := whole[:n]
		w.do(t, writing(2, 100, b))
		if !bytes.Equal(whole, text(n, n+500)) {
			t.Fatalf("%d bytes are changed", n)
		}
		for k := range whole {
			whole[k] = 99
		}
		w.holds(t)
		answers(t, w.f, reading(2, 100, min(n, 1024)), answer{b: text(n, min(n, 1024))})
		w.next(t, true)
		w.holds(t)
		w.undo(t, w.p)
	}
}

// R3: bytes that were handed out are as they were, whatever is done afterwards, and what is done with them, with their spare capacity, touches nothing.
func TestApartFromAnswers(t *testing.T) {
	for _, c := range [][2]int{{0, 9999}, {0, 256}, {256, 256}, {256, 1}, {300, 400}, {512, 256}, {100, 10}, {2560, 100}, {0, 0}} {
		p := with(128, 3000, 60, 70, 0, 71, 0, 0, 0, 0, 0, 0, 72, 73)
		w := twinOf(t, p)
		kept, _ := Read(w.f, 2, c[0], c[1])
		same := slices.Clone(kept)
		w.do(t, writing(2, 0, text(50, 1024)))
		w.do(t, resizing(2, 100))
		w.do(t, writing(2, 2500, text(50, 200)))
		w.undo(t, p)
		if !bytes.Equal(kept, same) {
			t.Fatalf("%x, not %x", kept, same)
		}
		other, _ := Read(w.f, 2, c[0], c[1])
		for _, b := range [][]byte{kept, other} {
			full := b[:cap(b)]
			for k := range full {
				full[k] = 99
			}
			w.do(t, reading(2, 0, 9999))
			w.holds(t)
		}
		if again, _ := Read(w.f, 2, c[0], c[1]); !bytes.Equal(again, same) {
			t.Fatalf("%x, not %x", again, same)
		}
	}
}

// R2: two file systems on two stores have nothing in common, and the same calls do the same; two on one store are one.
func TestStoresApart(t *testing.T) {
	p := with(192, 3000, 60, 70, 0, 0, 0, 0, 0, 0, 0, 0, 0, 73)
	a, b := twinOf(t, p), twinOf(t, p)
	changeAll(t, a)
	b.holds(t)
	changeAll(t, b)
	if !a.p.equal(b.p) {
		t.Fatal("the same calls do something else")
	}
	a.holds(t)
	other := &twin{d: a.d, f: table.New(a.f.S), p: a.p}
	other.do(t, writing(2, 4000, text(0, 100)))
	other.do(t, resizing(8, 9))
	a.p = other.p
	a.do(t, reading(2, 0, 9999))
	a.do(t, writing(8, 5, text(0, 100)))
	a.holds(t)
	b.holds(t)
}

// The layout that the tests write out is that of layer 4, what they lay is well formed, and what they fill blocks with is no map.
func TestPlainLayout(t *testing.T) {
	for n := range 768 {
		if fixedAt(n) != geom.Fixed(n) {
			t.Fatalf("block %d", n)
		}
		if _, e := inode.DecodeMap(filled(n)); e == api.OK {
			t.Fatalf("the filled block %d is a map", n)
		}
	}
	all := layouts()
	for seed, blocks := range []int{64, 128, 768} {
		all = append(all, scattered(blocks, seed, 100))
	}
	for k, p := range all {
		if !super.Formed(p.s) {
			t.Fatalf("%+v is not well formed", p.s)
		}
		for n, b := range p.blocks() {
			if len(b) != 256 {
				t.Fatalf("layout %d: block %d has %d bytes", k, n, len(b))
			}
		}
		for _, ino := range files {
			end := p.nodes[ino].Size
			for i, n := range p.all(ino) {
				if n > 0 && (256*i >= end || 256*i+256 > end && bytes.ContainsFunc(p.bytes[n][end-256*i:], func(r rune) bool { return r != 0 })) {
					t.Fatalf("layout %d: block %d of inode %d is beyond the size", k, i, ino)
				}
			}
		}
	}
}
