package dir

import (
	"bytes"
	"math"
	"slices"
	"testing"

	"ashlar/api"
	"ashlar/dirent"
	"ashlar/file"
	"ashlar/fmap"
	"ashlar/geom"
	"ashlar/group"
	"ashlar/inode"
	"ashlar/pack"
	"ashlar/space"
	"ashlar/store"
	"ashlar/table"
)

// P16.1: the chapter's example.
func TestExample(t *testing.T) {
	w := twinOf(t, 64)
	for k, name := range []string{"a", "b", "c"} {
		answers(t, w.f, adding(1, 5+k, name), answer{})
	}
	answers(t, w.f, removing(1, "a"), answer{})
	b, e := file.Read(w.f, 1, 0, 1000)
	want := []byte("\x07\x00\x01c\x00\x00\x00\x00\x00\x00\x00\x00\x00\x00\x00\x00\x06\x00\x01b\x00\x00\x00\x00\x00\x00\x00\x00\x00\x00\x00\x00")
	if !bytes.Equal(b, want) || e != api.OK {
		t.Fatalf("%q, %v, not %q", b, e, want)
	}
	answers(t, w.f, listing(1), answer{list: []dirent.Entry{entry(6, "b"), entry(7, "c")}})
	answers(t, w.f, finding(1, "c"), answer{n: 7})
	refused(t, w.f, finding(1, "a"), api.ErrNoEnt)
	refused(t, w.f, removing(1, "a"), api.ErrNoEnt)
}

// P16.1: each call with numbers about each edge, of free inodes, of files and of links: their errors come ahead of those of names and entries, and nothing is changed.
func TestInodeNumbers(t *testing.T) {
	w := twinOf(t, 128, many(20)...)
	for _, dir := range dirs[1:] {
		w.fill(t, dir, many(dir))
	}
	for _, ino := range inos {
		was := picture(w.f)
		list := slices.Concat(allFive(ino, 9, title(3)), allFive(ino, 9, "other"), allFive(ino, 0, title(3)), allFive(ino, 48, "a/b"))
		for _, e := range malformed() {
			list = append(list, allFive(ino, e.Ino, e.Name)...)
		}
		for _, a := range list {
			if e := kindError(ino); e != api.OK {
				refused(t, w.f, a, e)
				w.unchanged(t, was)
			}
			w.do(t, a)
		}
		w.holds(t)
		w.next(t)
	}
	for _, c := range []struct {
		ino  int
		want api.Errno
	}{
		{math.MinInt, api.ErrArg}, {-1, api.ErrArg}, {0, api.ErrArg}, {2, api.ErrNotDir}, {3, api.ErrNotDir}, {4, api.ErrArg}, {46, api.ErrArg}, {48, api.ErrArg}, {math.MaxInt, api.ErrArg},
	} {
		for _, a := range slices.Concat(allFive(c.ino, 5, "a"), allFive(c.ino, 0, ""), allFive(c.ino, 5, "..")) {
			refused(t, w.f, a, c.want)
		}
	}
}

// P16.1: a file is no directory, whatever bytes it has, a directory's too.
func TestFilesAreNone(t *testing.T) {
	w := twinOf(t, 128)
	for _, ino := range []int{aFile, aLink} {
		for _, b := range [][]byte{bytesOf(many(3)...), filled(1)[:100], make([]byte, 32)} {
			does(t, "Resize", file.Resize(w.f, ino, 0), api.OK)
			_, e := file.Write(w.f, ino, 0, b)
			does(t, "Write", e, api.OK)
			was := picture(w.f)
			for _, a := range slices.Concat(allFive(ino, 5, title(1)), allFive(ino, 5, "other"), allFive(ino, 0, ""), allFive(ino, 5, ".")) {
				refused(t, w.f, a, api.ErrNotDir)
			}
			w.unchanged(t, was)
		}
	}
}

// counts holds numbers of entries about the edges of blocks, of the direct ones and of all.
var counts = []int{0, 1, 2, 3, 15, 16, 17, 31, 32, 33, 47, 48, 144, 145, 159, 160, 161, 162, 176, 177, 1000, 2207, 2208}

// P16.1: each call on directories of many sizes: the answers, the bytes, and the blocks that are used.
func TestSizes(t *testing.T) {
	t.Parallel()
	w := twinOf(t, 256)
	for _, n := range counts {
		list := many(n)
		w.fill(t, 1, list)
		ahead := w.p.clone()
		w.used(t)
		w.do(t, listing(1))
		for _, k := range []int{0, 1, n / 2, n - 2, n - 1} {
			if k < 0 || k >= n {
				continue
			}
			answers(t, w.f, finding(1, list[k].Name), answer{n: list[k].Ino})
			refused(t, w.f, adding(1, 1+k%47, list[k].Name), api.ErrExist)
			w.do(t, setting(1, 47, list[k].Name))
			w.holds(t)
			w.undo(t, ahead)
			w.do(t, removing(1, list[k].Name))
			refused(t, w.f, finding(1, list[k].Name), api.ErrNoEnt)
			w.holds(t)
			w.used(t)
			w.undo(t, ahead)
		}
		refused(t, w.f, finding(1, "other"), api.ErrNoEnt)
		refused(t, w.f, setting(1, 9, "other"), api.ErrNoEnt)
		refused(t, w.f, removing(1, "other"), api.ErrNoEnt)
		w.holds(t)
		if n == 2208 {
			refused(t, w.f, adding(1, 9, "other"), api.ErrFBig)
			refused(t, w.f, adding(1, 9, title(0)), api.ErrExist)
			refused(t, w.f, adding(1, 48, "other"), api.ErrArg)
		} else {
			answers(t, w.f, adding(1, 9, "other"), answer{})
			w.undo(t, ahead)
			w.do(t, adding(1, 9, "other"))
		}
		w.holds(t)
		w.used(t)
	}
}

// P16.1: a directory that is filled entry by entry beyond its direct blocks, and emptied again from the front, from the end, and anywhere.
func TestFilledAndEmptied(t *testing.T) {
	t.Parallel()
	for turn := range 3 {
		l, w := lots(turn), twinOf(t, 64)
		for k, e := range many(180) {
			w.do(t, adding(8, e.Ino, e.Name))
			w.used(t)
			if k%13 < 2 {
				w.holds(t)
			}
			w.next(t)
		}
		w.do(t, listing(8))
		for n := 180; n > 0; n-- {
			k := []int{0, n - 1, l.below(n)}[turn]
			w.do(t, removing(8, w.p[8][k].Name))
			w.used(t)
			if n%13 < 2 {
				w.holds(t)
			}
			w.next(t)
		}
		w.holds(t)
		node, e := w.f.Get(8)
		if node != (inode.Inode{Kind: api.Dir, Links: 1}) || e != api.OK {
			t.Fatalf("%+v, %v", node, e)
		}
		w.do(t, listing(8))
	}
}

// P16.1, Find: names that are there, and names that are nearly.
func TestFind(t *testing.T) {
	names := []string{"abc", "abcdefghijklm", "abcdefghijkln", "a", "A", "\x80\xff", "...", "x y", "\xc3\xa9", "last"}
	w := twinOf(t, 64)
	var list []dirent.Entry
	for k, name := range names {
		list = append(list, entry(10+k, name))
	}
	w.fill(t, 1, list)
	was := picture(w.f)
	for outside := range 2 {
		if outside == 1 {
			w.end(t, true)
		}
		for k, name := range names {
			answers(t, w.f, finding(1, name), answer{n: 10 + k})
			refused(t, w.f, finding(5, name), api.ErrNoEnt)
		}
		for _, name := range []string{
			"", "ab", "abcd", "abd", "bc", "abcdefghijkl", "abcdefghijklmn", "abcdefghijklo", "abcdefghijklm\x00", "abcdefghijkl\x00", "a\x00", "abc\x00", "\x00", "\x00abc", "/", "/a", "a/", "abc/", "./a", "B", "ABC", "Abc", "aBc", "\x80", "\xff",
			"\x80\xfe", "\x80\xff\x00", "\xef\xbf\xbd", "\xc3\xa8", "e\xcc\x81", ".", "..", "....", "x", " x y", "x y ", "x  y", "las", "lass", "last ", "Last", string(make([]byte, 13)), string(bytes.Repeat([]byte("a"), 500)),
		} {
			refused(t, w.f, finding(1, name), api.ErrNoEnt)
		}
		w.unchanged(t, was)
	}
	if w.f.S.Dirty() != 0 {
		t.Fatal("Find changes something")
	}
}

// ordered holds names in the order in which List has them.
var ordered = []string{
	"\x01", " ", "-", "...", ".a", "0", "10", "9", "A", "AB", "B", "Z", "a", "a\x01", "a ", "aB", "aa", "ab", "abcdefghijklm", "abcdefghijkln", "a\x7f", "a\x80", "a\xff", "b", "z", "~", "\x80", "\xc3\xa9", "\xff", "\xff\xff",
}

// P16.1, List: the order of the names is that of their bytes, however they were added, and after some were removed.
func TestListOrder(t *testing.T) {
	for turn := range 8 {
		l, w := lots(turn), twinOf(t, 128)
		rest := slices.Clone(ordered)
		if turn == 1 {
			slices.Reverse(rest)
		}
		for k := range rest {
			if turn > 1 {
				j := k + l.below(len(rest)-k)
				rest[k], rest[j] = rest[j], rest[k]
			}
			answers(t, w.f, adding(1, 1+k, rest[k]), answer{})
		}
		left := slices.Clone(ordered)
		for len(left) > 0 {
			var want []dirent.Entry
			for _, name := range left {
				want = append(want, entry(1+slices.Index(rest, name), name))
			}
			answers(t, w.f, listing(1), answer{list: want})
			k := l.below(len(left))
			answers(t, w.f, removing(1, left[k]), answer{})
			left = slices.Delete(left, k, k+1)
		}
		answers(t, w.f, listing(1), answer{})
	}
}

// P16.1, Add: an entry that is not well formed, in each way: ErrArg, and nothing is changed; the same of Set, also where the name is there.
func TestMalformed(t *testing.T) {
	for _, n := range []int{0, 1, 15, 16, 20} {
		w := twinOf(t, 64, append(many(n), entry(5, "ok"))...)
		was := picture(w.f)
		for _, e := range malformed() {
			refused(t, w.f, action{"Add", 1, e}, api.ErrArg)
			refused(t, w.f, action{"Set", 1, e}, api.ErrArg)
			if e.Name != "ok" {
				refused(t, w.f, finding(1, e.Name), api.ErrNoEnt)
				refused(t, w.f, removing(1, e.Name), api.ErrNoEnt)
			}
		}
		w.unchanged(t, was)
		w.end(t, true)
		for _, e := range malformed() {
			refused(t, w.f, action{"Add", 1, e}, api.ErrArg)
			refused(t, w.f, action{"Set", 1, e}, api.ErrArg)
		}
		if w.f.S.Dirty() != 0 {
			t.Fatal("something is changed")
		}
	}
}

// P16.1, Add: every entry that is well formed at the edges, its bytes behind all others, and the size.
func TestAdd(t *testing.T) {
	for _, n := range []int{0, 1, 2, 14, 15, 16, 17, 159, 160, 161} {
		w := twinOf(t, 128, many(n)...)
		want, _ := file.Read(w.f, 1, 0, math.MaxInt)
		for k, e := range []dirent.Entry{
			entry(1, "x"), entry(47, "abcdefghijklm"), entry(9, "abcdefghijkln"), entry(9, "X"), entry(9, "..."), entry(9, ".x"), entry(9, "x."), entry(9, "\x01"), entry(9, "\xff\xfe"), entry(9, " "), entry(9, "0"), entry(9, "\\"),
		} {
			answers(t, w.f, action{"Add", 1, e}, answer{})
			want = append(want, bytesOf(e)...)
			b, err := file.Read(w.f, 1, 0, math.MaxInt)
			node, _ := w.f.Get(1)
			if !bytes.Equal(b, want) || err != api.OK || node.Size != 16*(n+k+1) || node.Links != 1 || node.Kind != api.Dir {
				t.Fatalf("%d entries and %d: %q, %v, not %q; %+v", n, k+1, b, err, want, node)
			}
			answers(t, w.f, finding(1, e.Name), answer{n: e.Ino})
			was := picture(w.f)
			for _, ino := range []int{e.Ino, 1, 2, 46, 47} {
				refused(t, w.f, adding(1, ino, e.Name), api.ErrExist)
			}
			w.unchanged(t, was)
		}
	}
}

// P16.1, Add: a name that exists, with the same number and with another one: ErrExist, and nothing is changed; the same name in another directory is another one.
func TestExists(t *testing.T) {
	w := twinOf(t, 64, many(40)...)
	was := picture(w.f)
	for _, e := range many(40) {
		for _, ino := range []int{e.Ino, 1 + e.Ino%47, 1, 47} {
			refused(t, w.f, adding(1, ino, e.Name), api.ErrExist)
		}
	}
	w.unchanged(t, was)
	w.end(t, true)
	refused(t, w.f, adding(1, 3, title(0)), api.ErrExist)
	w.begin(t)
	if w.f.S.Dirty() != 0 {
		t.Fatal("something is changed")
	}
	for _, e := range many(40) {
		w.do(t, adding(5, e.Ino%47+1, e.Name))
	}
	w.holds(t)
}

// P16.1, Set: the number alone is changed, and the place stays; a name that is not there changes nothing.
func TestSet(t *testing.T) {
	for _, n := range []int{1, 2, 3, 16, 17, 33, 170} {
		list := many(n)
		w := twinOf(t, 64, list...)
		for _, k := range []int{0, 1, n / 2, n - 2, n - 1} {
			if k < 0 || k >= n {
				continue
			}
			for _, ino := range []int{1, 47, 2, 3, 4, list[k].Ino, list[k].Ino} {
				was := picture(w.f)
				node, _ := w.f.Get(1)
				answers(t, w.f, setting(1, ino, list[k].Name), answer{})
				list[k].Ino = ino
				if b, _ := file.Read(w.f, 1, 0, math.MaxInt); !bytes.Equal(b, bytesOf(list...)) {
					t.Fatalf("%d of %d: %q, not %q", k, n, b, bytesOf(list...))
				}
				if now, _ := w.f.Get(1); now != node {
					t.Fatalf("%+v, not %+v", now, node)
				}
				if at, _ := fmap.At(w.f, 1, k/16); len(w.changed(was)) > 1 || len(w.changed(was)) == 1 && w.changed(was)[0] != at {
					t.Fatalf("the blocks %v are changed", w.changed(was))
				}
				answers(t, w.f, finding(1, list[k].Name), answer{n: ino})
			}
		}
		was := picture(w.f)
		for _, name := range []string{"other", "abcdefghijklm", "A", list[0].Name + "x", list[0].Name[:1]} {
			refused(t, w.f, setting(1, 9, name), api.ErrNoEnt)
		}
		refused(t, w.f, setting(5, 9, list[0].Name), api.ErrNoEnt)
		w.unchanged(t, was)
	}
}

// P16.1, Remove: each place of small directories, written out: the last entry moves to it, and the size decreases.
func TestRemove(t *testing.T) {
	for n := 1; n <= 35; n++ {
		for k := range n {
			list := many(n)
			w := twinOf(t, 64, list...)
			answers(t, w.f, removing(1, list[k].Name), answer{})
			want := slices.Clone(list[:n-1])
			if k < n-1 {
				want[k] = list[n-1]
			}
			b, e := file.Read(w.f, 1, 0, math.MaxInt)
			if !bytes.Equal(b, bytesOf(want...)) || e != api.OK {
				t.Fatalf("%d of %d: %q, %v, not %q", k, n, b, e, bytesOf(want...))
			}
			answers(t, w.f, listing(1), answer{list: sorted(want)})
			was := picture(w.f)
			for _, name := range []string{list[k].Name, list[k].Name + "x", "other", "", ".", "..", "/", "abcdefghijklmn"} {
				refused(t, w.f, removing(1, name), api.ErrNoEnt)
			}
			w.unchanged(t, was)
			if used, _ := space.Used(w.f.S, 64); used != 6+(n+14)/16 {
				t.Fatalf("%d of %d: %d blocks are used", k, n, used)
			}
		}
	}
}

// P16.1, Remove: a block that holds no entry any more is free, and the map with the last one in it; the bytes behind the last entry are zero.
func TestRemoveFrees(t *testing.T) {
	for _, n := range []int{1, 17, 33, 145, 161, 177} {
		for _, k := range []int{0, n / 2, n - 1} {
			list := many(n)
			w := twinOf(t, 64, list...)
			before, _ := fmap.Blocks(w.f, 1)
			node, _ := w.f.Get(1)
			answers(t, w.f, removing(1, list[k].Name), answer{})
			after, _ := fmap.Blocks(w.f, 1)
			last := before[len(before)-1]
			if !slices.Equal(after, before[:len(before)-1]) {
				t.Fatalf("the blocks are %v, not those of %v but the last one", after, before)
			}
			if o, _ := space.Owner(w.f.S, last); o != (api.Owner{}) {
				t.Fatalf("block %d is %v's", last, o)
			}
			if now, _ := w.f.Get(1); n == 161 && (node.Map == 0 || now.Map != 0) || n == 177 && now.Map != node.Map || now.Size != 16*(n-1) {
				t.Fatalf("%+v", now)
			}
			if o, _ := space.Owner(w.f.S, node.Map); n == 161 && o != (api.Owner{}) {
				t.Fatalf("the map is %v's", o)
			}
		}
	}
	w := twinOf(t, 64, many(20)...)
	answers(t, w.f, removing(1, title(5)), answer{})
	at, _ := fmap.At(w.f, 1, 1)
	if b, _ := w.f.S.Get(at); !bytes.Equal(b[:48], bytesOf(many(19)[16:]...)) || slices.Max(b[48:]) > 0 {
		t.Fatalf("the last block is %q", b)
	}
}

// names holds calls of all five kinds on directory 1, with names that are there and that are not, and with entries that are not well formed.
func names() []action {
	return slices.Concat(allFive(1, 9, title(0)), allFive(1, 9, title(1)), allFive(1, 9, "other"), allFive(1, 0, title(0)), allFive(1, 48, "other"), allFive(1, 9, ""), allFive(1, 9, "a/b"), allFive(1, 9, ".."), allFive(1, 9, "abcdefghijklmn"))
}

// unclean asks for ErrClean from all five calls, whatever name or entry they have, with nothing changed; other directories go on.
func (w *twin) unclean(t *testing.T, what ...any) {
	t.Helper()
	was := picture(w.f)
	for _, a := range names() {
		if got := asked(w.f, a); !got.equal(answer{e: api.ErrClean}) {
			t.Fatalf("%v: %+v: %+v", what, a, got)
		}
	}
	w.unchanged(t, was)
	w.do(t, finding(8, title(1)))
	w.do(t, listing(8))
}

// P16.1: an entry that is not well formed, in each way, at the begin, at the end and between: ErrClean ahead of what is wrong with names and entries.
func TestNotEntries(t *testing.T) {
	for _, n := range []int{1, 2, 16, 17, 40, 170} {
		w := twinOf(t, 128, many(n)...)
		w.fill(t, 8, many(20))
		ahead := w.p.clone()
		for _, bad := range badBytes() {
			for _, k := range []int{0, n / 2, n - 1} {
				for _, f := range w.both() {
					_, e := file.Write(f, 1, 16*k, bad)
					does(t, "Write", e, api.OK)
				}
				w.unclean(t, n, k, bad)
				w.do(t, adding(8, 9, "other"))
				w.do(t, removing(8, title(0)))
				w.same(t)
				w.undo(t, ahead)
			}
		}
		w.holds(t)
		for _, a := range names() {
			w.do(t, a)
		}
		w.holds(t)
	}
}

// P16.1: a size that is no multiple of DirentSize, by each number of bytes, less or more: ErrClean.
func TestNotWhole(t *testing.T) {
	for _, n := range []int{0, 1, 15, 16, 17, 160, 161} {
		w := twinOf(t, 128, many(n)...)
		w.fill(t, 8, many(20))
		ahead := w.p.clone()
		for k := -15; k < 40; k++ {
			if 16*n+k < 0 || k == 0 {
				continue
			}
			for _, f := range w.both() {
				does(t, "Resize", file.Resize(f, 1, 16*n+k), api.OK)
			}
			w.unclean(t, n, k)
			w.undo(t, ahead)
			// The size alone: what follows the last whole entry is no zero then.
			w.node(t, func(x *inode.Inode) { x.Size = 16*n + k })
			w.unclean(t, n, k)
			w.undo(t, ahead)
		}
		w.holds(t)
	}
}

// P16.1: a hole among the bytes of a directory, at the begin, at the end and between: ErrClean.
func TestHoles(t *testing.T) {
	for _, n := range []int{16, 17, 40, 48, 170, 200} {
		for i := range (n + 15) / 16 {
			w := twinOf(t, 128, many(n)...)
			w.fill(t, 8, many(20))
			does(t, "Resize", file.Resize(w.f, 1, 0), api.OK)
			for k, e := range many(n) {
				if k/16 != i {
					_, err := file.Write(w.f, 1, 16*k, bytesOf(e))
					does(t, "Write", err, api.OK)
				}
			}
			does(t, "Resize", file.Resize(w.f, 1, 16*n), api.OK)
			if at, e := fmap.At(w.f, 1, i); at != 0 || e != api.OK {
				t.Fatalf("block %d is at %d, %v", i, at, e)
			}
			w.unclean(t, n, i)
		}
	}
	w := twinOf(t, 128)
	w.fill(t, 8, many(20))
	for _, n := range []int{16, 32, 256, 512, 2560, 2576, 35328} {
		does(t, "Resize", file.Resize(w.f, 1, n), api.OK)
		w.unclean(t, n)
	}
}

// P16.1: what stands behind the last entry is not the directory's, though it is in its block.
func TestBehindTheSize(t *testing.T) {
	w := twinOf(t, 64, many(20)...)
	at, _ := fmap.At(w.f, 1, 1)
	b, _ := w.f.S.Get(at)
	w.spoil(t, at, append(b[:64], filled(7)[64:]...))
	for _, a := range []action{finding(1, title(19)), listing(1), setting(1, 9, title(18)), adding(1, 9, "other"), adding(1, 9, "another"), setting(1, 10, "another"), removing(1, title(0)), removing(1, "another"), listing(1)} {
		w.do(t, a)
	}
	w.holds(t)
}

// P16.1: two entries of one name are entries: what the chapter says of that name holds for one of them.
func TestTwice(t *testing.T) {
	for _, n := range []int{2, 3, 16, 17, 33} {
		for _, c := range [][2]int{{0, 1}, {0, n - 1}, {n / 2, n - 1}, {n - 2, n - 1}} {
			if c[0] == c[1] {
				continue
			}
			list := many(n)
			list[c[0]], list[c[1]] = entry(30, "two"), entry(20, "two")
			w := twinOf(t, 64, list...)
			got := asked(w.f, finding(1, "two"))
			if got.e != api.OK || got.n != 20 && got.n != 30 {
				t.Fatalf("%+v", got)
			}
			all := asked(w.f, listing(1))
			names := func(list []dirent.Entry) []string {
				var all []string
				for _, e := range list {
					all = append(all, e.Name)
				}
				return all
			}
			if all.e != api.OK || !slices.Equal(names(all.list), names(sorted(list))) || !slices.Contains(all.list, list[c[0]]) || !slices.Contains(all.list, list[c[1]]) {
				t.Fatalf("%+v", all)
			}
			refused(t, w.f, adding(1, 30, "two"), api.ErrExist)
			w.same(t)
			answers(t, w.f, setting(1, 40, "two"), answer{})
			b, _ := file.Read(w.f, 1, 0, math.MaxInt)
			one, other := slices.Clone(list), slices.Clone(list)
			one[c[0]].Ino, other[c[1]].Ino = 40, 40
			if !bytes.Equal(b, bytesOf(one...)) && !bytes.Equal(b, bytesOf(other...)) {
				t.Fatalf("%q", b)
			}
			w.undo(t, w.p)
			answers(t, w.f, removing(1, "two"), answer{})
			b, _ = file.Read(w.f, 1, 0, math.MaxInt)
			one, other = slices.Clone(list), slices.Clone(list)
			one[c[0]], other[c[1]] = list[n-1], list[n-1]
			if !bytes.Equal(b, bytesOf(one[:n-1]...)) && !bytes.Equal(b, bytesOf(other[:n-1]...)) {
				t.Fatalf("%q", b)
			}
		}
	}
}

// P16.1, Add: no space at each block that it needs: ErrNoSpace, what was changed before it remains, and behind End(false) all is as it was.
func TestNoSpace(t *testing.T) {
	for _, n := range []int{0, 1, 15, 16, 17, 32, 144, 145, 160, 161, 176, 177} {
		for free := range 4 {
			w := twinOf(t, 128, many(n)...)
			w.occupy(t, []int{127, 90, 91}[:free]...)
			ahead, was := w.p.clone(), picture(w.f)
			node, _ := w.f.Get(1)
			if more := needs(n+1) - needs(n); more <= free {
				answers(t, w.f, adding(1, 9, "other"), answer{})
			} else {
				refused(t, w.f, adding(1, 9, "other"), api.ErrNoSpace)
				if now, _ := w.f.Get(1); now.Size != node.Size || (now.Map != 0) != (n > 160 || n == 160 && free == 1) {
					t.Fatalf("%d entries, %d blocks: %+v", n, free, now)
				}
				if n == 160 && free == 1 {
					if o, _ := space.Owner(w.f.S, 127); o != (api.Owner{Ino: 1, At: api.MapAt}) {
						t.Fatalf("block 127 is %v's", o)
					}
				} else {
					w.unchanged(t, was)
				}
				w.do(t, listing(1))
				refused(t, w.f, finding(1, "other"), api.ErrNoEnt)
				refused(t, w.f, adding(1, 0, "other"), api.ErrArg)
			}
			w.undo(t, ahead)
			w.unchanged(t, was)
			w.do(t, adding(1, 9, "other"))
			w.same(t)
			w.undo(t, ahead)
			// What needs no block goes on.
			for _, a := range []action{setting(1, 9, title(0)), removing(1, title(0)), removing(1, title(2)), adding(1, 7, "other"), adding(1, 7, "another")} {
				if a.call == "Add" && needs(len(w.p[1])+1) > needs(n) {
					break
				}
				w.do(t, a)
			}
			w.holds(t)
		}
	}
}

// P16.1: block 0 or the block of the inode is not what it should be: ErrClean ahead of all but a number that is no inode's; nothing is changed.
func TestNoTable(t *testing.T) {
	w := twinOf(t, 128, many(20)...)
	w.fill(t, 8, many(20))
	ahead := w.p.clone()
	table, _ := w.f.S.Get(43)
	damaged, larger := slices.Clone(table), slices.Clone(table)
	damaged[32*5], larger[32+4] = 4, 1
	other, _ := pack.Seal([]byte("ashlar 2"))
	desc, _ := w.f.S.Get(1)
	for _, c := range []struct {
		n int
		b []byte
	}{{0, filled(1)}, {0, make([]byte, 256)}, {0, other}, {0, desc}, {43, filled(1)}, {43, damaged}, {43, slices.Concat(larger[:36], []byte{0xff, 0xff}, larger[38:])}, {43, desc}} {
		w.spoil(t, c.n, c.b)
		was := picture(w.f)
		for _, ino := range []int{1, 2, 3, 4, 5} {
			for _, a := range slices.Concat(allFive(ino, 9, title(0)), allFive(ino, 0, ""), allFive(ino, 9, "other")) {
				refused(t, w.f, a, api.ErrClean)
			}
		}
		for _, ino := range []int{math.MinInt, -1, 0, 48, math.MaxInt} {
			for _, a := range slices.Concat(allFive(ino, 9, title(0)), allFive(ino, 0, "")) {
				refused(t, w.f, a, api.ErrArg)
			}
		}
		w.unchanged(t, was)
		if c.n == 43 {
			for _, a := range allFive(8, 9, title(7)) {
				w.do(t, a)
			}
			w.same(t)
		}
		w.undo(t, ahead)
	}
	w.holds(t)
}

// P16.1: the map's block is none: ErrClean from all five where the entries reach into it; where they do not, from Remove alone, behind what it changed.
func TestNoMap(t *testing.T) {
	bad := [][]byte{filled(1), slices.Repeat([]byte{0xff}, 256), slices.Repeat([]byte{0, 3}, 128), append(make([]byte, 255), 3)}
	w := twinOf(t, 128, many(200)...)
	w.fill(t, 8, many(20))
	ahead := w.p.clone()
	node, _ := w.f.Get(1)
	for _, b := range bad {
		w.spoil(t, node.Map, b)
		w.unclean(t, b)
		w.undo(t, ahead)
	}
	// The map is beyond the disk: the error of the store.
	w.node(t, func(x *inode.Inode) { x.Map = 700 })
	for _, a := range names() {
		refused(t, w.f, a, api.ErrArg)
	}
	w.undo(t, ahead)
	w.fill(t, 1, many(20))
	ahead = w.p.clone()
	for k, b := range append(bad, nil) {
		at, want := 100, api.ErrClean
		if b == nil {
			at, want = 700, api.ErrArg
		} else {
			w.spoil(t, at, b)
		}
		w.node(t, func(x *inode.Inode) { x.Map = at })
		for _, a := range []action{finding(1, title(3)), listing(1), setting(1, 9, title(3)), adding(1, 9, "other"), finding(1, "other"), removing(1, "none")} {
			w.do(t, a)
			w.same(t)
		}
		was := picture(w.f)
		w.fails(t, removing(1, "other"), want)
		w.unchanged(t, was)
		w.fails(t, removing(1, title(k)), want)
		if b, _ := file.Read(w.f, 1, 0, 9999); !bytes.Equal(b, bytesOf(w.p[1]...)) || len(b) != 16*21 || w.p[1][k] != entry(9, "other") {
			t.Fatalf("%q, not %q", b, bytesOf(w.p[1]...))
		}
		w.undo(t, ahead)
	}
	w.holds(t)
}

// notOwners returns the descriptor and the owners' page of group g, one of them not what it should be.
func notOwners(f *table.FS, g int) [][2][]byte {
	desc, _ := f.S.Get(geom.Desc(g))
	page, _ := f.S.Get(geom.Owners(g))
	of, _ := group.Of(g, group.Fresh(g))
	of.Bits.Set(60, true)
	of.Bits.Set(5, true)
	full, _ := group.Encode(of)
	malformed := slices.Clone(page)
	malformed[254], malformed[255] = 99, 99
	return [][2][]byte{{filled(1), page}, {make([]byte, 256), page}, {full, page}, {desc, filled(1)}, {desc, malformed}, {page, desc}}
}

// P16.1: a group's descriptor or owners' page is not what it should be: ErrClean from what takes a block, with nothing changed, and from what frees one, behind what was changed; all else goes on.
func TestNoOwners(t *testing.T) {
	w := twinOf(t, 128, many(17)...)
	w.fill(t, 8, many(16))
	ahead := w.p.clone()
	for g := range 2 {
		for _, b := range notOwners(w.f, g) {
			w.spoil(t, geom.Desc(g), b[0])
			w.spoil(t, geom.Owners(g), b[1])
			was := picture(w.f)
			w.fails(t, adding(8, 9, "other"), api.ErrClean)
			w.fails(t, adding(5, 9, "other"), api.ErrClean)
			w.unchanged(t, was)
			for _, a := range []action{finding(1, title(16)), listing(1), listing(8), setting(8, 40, title(15)), adding(1, 9, "other"), setting(1, 10, "other"), removing(1, title(3)), removing(8, title(15)), removing(8, title(0)), adding(8, 9, "new"), adding(5, 48, "other")} {
				w.do(t, a)
				w.same(t)
			}
			if g == 0 {
				w.fails(t, removing(1, title(0)), api.ErrClean)
				if b, _ := file.Read(w.f, 1, 0, 9999); !bytes.Equal(b, bytesOf(w.p[1]...)) || w.p[1][0] != w.p[1][16] {
					t.Fatalf("%q", b)
				}
			} else {
				w.do(t, removing(1, title(0)))
			}
			w.same(t)
			w.undo(t, ahead)
		}
	}
	w.holds(t)
}

// P16.1: a location of what is no used open block: it is read and changed as it is, and freeing it is the ErrArg of layer 12, behind what was changed.
func TestStray(t *testing.T) {
	for _, n := range []int{100, 127, 42, 3} {
		for _, k := range []int{0, 5, 16} {
			w := twinOf(t, 128, many(17)...)
			w.spoil(t, n, append(bytesOf(many(17)[16]), make([]byte, 240)...))
			w.relocate(t, 1, n)
			for _, a := range []action{finding(1, title(16)), listing(1), setting(1, 9, title(16)), adding(1, 9, "other"), removing(1, "other")} {
				w.do(t, a)
			}
			w.holds(t)
			was := picture(w.f)
			w.fails(t, removing(1, title(k)), api.ErrArg)
			b, _ := file.Read(w.f, 1, 0, 9999)
			want := many(17)
			want[16].Ino = 9
			want[k] = want[16]
			if !bytes.Equal(b, bytesOf(want...)) {
				t.Fatalf("%q, not %q", b, bytesOf(want...))
			}
			if at, _ := fmap.At(w.f, 1, 0); k < 16 && !slices.Equal(w.changed(was), []int{at}) || k == 16 && len(w.changed(was)) > 0 {
				t.Fatalf("the blocks %v are changed", w.changed(was))
			}
		}
	}
}

// P16.1: a location beyond the disk: the error of the store, from all five where the entries reach it; behind them from Add, with nothing changed, and from Remove, behind what was changed.
func TestBeyondTheDisk(t *testing.T) {
	w := twinOf(t, 128, many(200)...)
	ahead := w.p.clone()
	for i := range 13 {
		w.relocate(t, i, 128+i)
		was := picture(w.f)
		for _, a := range names() {
			refused(t, w.f, a, api.ErrArg)
		}
		w.unchanged(t, was)
		w.undo(t, ahead)
	}
	w.fill(t, 1, many(16))
	ahead = w.p.clone()
	w.node(t, func(x *inode.Inode) { x.Direct[1] = 200 })
	was := picture(w.f)
	w.fails(t, adding(1, 9, "other"), api.ErrArg)
	w.unchanged(t, was)
	for _, a := range []action{listing(1), setting(1, 9, title(3)), finding(1, title(3)), adding(1, 9, title(3)), removing(1, "other")} {
		w.do(t, a)
	}
	w.fails(t, removing(1, title(15)), api.ErrArg)
	w.holds(t)
	w.fails(t, removing(1, title(3)), api.ErrArg)
	if b, _ := file.Read(w.f, 1, 0, 9999); !bytes.Equal(b, bytesOf(w.p[1]...)) || w.p[1][3] != w.p[1][15] {
		t.Fatalf("%q", b)
	}
	w.undo(t, ahead)
	w.holds(t)
}

// P16.1: of several errors the one that the chapter names first.
func TestErrorOrder(t *testing.T) {
	w := twinOf(t, 128, many(16)...)
	w.occupy(t)
	for _, a := range []action{adding(1, 0, "other"), adding(1, 9, "a/b"), adding(1, 0, title(3)), setting(1, 0, "other"), setting(1, 48, title(3))} {
		refused(t, w.f, a, api.ErrArg)
	}
	refused(t, w.f, adding(1, 9, title(3)), api.ErrExist)
	refused(t, w.f, adding(1, 9, "other"), api.ErrNoSpace)
	w.end(t, true)
	refused(t, w.f, adding(1, 9, title(3)), api.ErrExist)
	refused(t, w.f, adding(1, 9, "other"), api.ErrNoSpace)
	refused(t, w.f, setting(1, 9, "other"), api.ErrNoEnt)
	refused(t, w.f, removing(1, "other"), api.ErrNoEnt)
	refused(t, w.f, removing(1, title(3)), api.ErrBusy)
	w.begin(t)
	// Bytes that are none are told ahead of an entry that is none, and behind a block that cannot be read.
	for _, f := range w.both() {
		_, e := file.Write(f, 1, 0, []byte{0})
		does(t, "Write", e, api.OK)
	}
	for _, a := range names() {
		refused(t, w.f, a, api.ErrClean)
	}
	w.node(t, func(x *inode.Inode) { x.Size, x.Direct[1] = 500, 128 })
	for _, a := range names() {
		refused(t, w.f, a, api.ErrArg)
	}
	w.node(t, func(x *inode.Inode) { x.Kind = api.File })
	for _, a := range names() {
		refused(t, w.f, a, api.ErrNotDir)
	}
}

// R1: a nil file system, one on a nil store, and one on a store without a disk, whatever the arguments.
func TestNil(t *testing.T) {
	var none *table.FS
	for _, f := range []*table.FS{none, {}, table.New(nil), {S: &store.Store{}}} {
		for _, ino := range inos {
			for _, a := range slices.Concat(allFive(ino, 9, "a"), allFive(ino, 0, ""), allFive(ino, math.MinInt, "a/b")) {
				refused(t, f, a, api.ErrArg)
			}
		}
	}
}

// P16.1: outside of a call what would change something returns ErrBusy, and changes nothing; all else goes as within.
func TestOutside(t *testing.T) {
	w := twinOf(t, 128, many(20)...)
	w.end(t, true)
	was := picture(w.f)
	for _, a := range []action{adding(1, 9, "other"), adding(5, 9, "other"), setting(1, 9, title(0)), setting(1, many(20)[19].Ino, title(19)), removing(1, title(0)), removing(1, title(19))} {
		refused(t, w.f, a, api.ErrBusy)
	}
	for _, a := range []action{finding(1, title(0)), finding(1, "other"), listing(1), listing(5), listing(2), adding(1, 9, title(0)), adding(1, 0, "other"), adding(2, 9, "other"), setting(1, 9, "other"), setting(4, 9, "other"), removing(1, "other"), removing(3, "a"), removing(5, "a")} {
		w.do(t, a)
	}
	w.unchanged(t, was)
	if w.f.S.Dirty() != 0 || w.f.S.Within() {
		t.Fatal("a call outside changes something")
	}
}

// P16.1: a store that is over returns ErrIO for each call on a number that can be an inode's.
func TestOver(t *testing.T) {
	w := twinOf(t, 128, many(20)...)
	w.do(t, adding(1, 9, "other"))
	w.end(t, true)
	w.d.SetFuse(0)
	does(t, "Sync", w.f.S.Sync(), api.ErrIO)
	for range 2 {
		for _, ino := range []int{1, 2, 3, 4, 47} {
			for _, a := range slices.Concat(allFive(ino, 9, title(0)), allFive(ino, 0, ""), allFive(ino, 9, "other")) {
				refused(t, w.f, a, api.ErrIO)
			}
		}
		for _, ino := range []int{-1, 0, 48} {
			for _, a := range allFive(ino, 9, title(0)) {
				refused(t, w.f, a, api.ErrArg)
			}
		}
	}
}

// P16.1: without power the first block that is read from the disk is ErrIO, and the store is over, also behind changes.
func TestNoPower(t *testing.T) {
	for _, c := range []struct {
		action
		reads []int // in the order in which they are read first: directory 1 has the blocks 49 and 50, directory 5 has 51
	}{
		{finding(1, title(0)), []int{0, 43, 49, 50}}, {finding(1, "other"), []int{0, 43, 49, 50}}, {listing(1), []int{0, 43, 49, 50}}, {listing(8), []int{0, 44}}, {setting(1, 9, title(0)), []int{0, 43, 49, 50}}, {setting(1, 9, "other"), []int{0, 43, 49, 50}},
		{adding(1, 9, "other"), []int{0, 43, 49, 50}}, {adding(1, 0, "other"), []int{0, 43, 49, 50}}, {adding(5, 9, "other"), []int{0, 43, 51, 1, 2, 64, 65}}, {adding(8, 9, "other"), []int{0, 44, 1, 2, 64, 65}}, {adding(2, 9, "other"), []int{0, 43}},
		{removing(1, title(0)), []int{0, 43, 49, 50, 1, 2}}, {removing(1, title(16)), []int{0, 43, 49, 50, 1, 2}}, {removing(5, title(0)), []int{0, 43, 51}}, {removing(5, "other"), []int{0, 43, 51}},
	} {
		for k := 0; k <= len(c.reads); k++ {
			w := twinOf(t, 128, many(17)...)
			w.fill(t, 5, many(16))
			for _, n := range []int{0, 1, 2, 43, 44, 49, 50, 51, 64, 65} {
				if b, _ := w.f.S.Get(n); !slices.Contains(c.reads[k:], n) {
					w.spoil(t, n, b)
				}
			}
			w.d.SetFuse(0)
			w.d.Flush()
			// What reads nothing else from the disk meets no error yet.
			if k == len(c.reads) {
				w.do(t, c.action)
				w.end(t, true)
				does(t, "Sync", w.f.S.Sync(), api.ErrIO)
				continue
			}
			refused(t, w.f, c.action, api.ErrIO)
			if !w.f.S.Over() {
				t.Fatalf("%+v without block %d: not over", c.action, c.reads[k])
			}
			for _, a := range names() {
				refused(t, w.f, a, api.ErrIO)
			}
		}
	}
}

// P16.1: a call that has no room left: the store's ErrNoSpace, with what was changed before, and End(false) undoes it.
func TestNoRoom(t *testing.T) {
	for _, c := range []struct {
		n int
		action
		puts []int // in the order in which they are changed first: the blocks of directory 1 begin at 49
	}{
		{3, adding(1, 9, "other"), []int{49, 43}}, {0, adding(1, 9, "other"), []int{2, 1, 49, 43}}, {16, adding(1, 9, "other"), []int{2, 1, 50, 43}}, {17, adding(1, 9, "other"), []int{50, 43}}, {160, adding(1, 9, "other"), []int{2, 1, 59, 43, 60}},
		{3, setting(1, 9, title(0)), []int{49}}, {17, setting(1, 9, title(16)), []int{50}}, {170, setting(1, 9, title(165)), []int{60}}, {3, removing(1, title(2)), []int{49, 43}}, {3, removing(1, title(0)), []int{49, 43}},
		{1, removing(1, title(0)), []int{2, 1, 43}}, {17, removing(1, title(16)), []int{2, 1, 43}}, {17, removing(1, title(0)), []int{49, 2, 1, 43}}, {18, removing(1, title(0)), []int{49, 50, 43}}, {161, removing(1, title(20)), []int{50, 2, 1, 59, 43}},
		{170, removing(1, title(20)), []int{50, 60, 43}}, {3, adding(1, 9, title(0)), nil}, {3, adding(1, 0, "other"), nil}, {3, setting(1, 9, "other"), nil}, {3, removing(1, "other"), nil}, {3, finding(1, title(0)), nil}, {3, listing(1), nil},
	} {
		for left := range 7 {
			w := twinOf(t, 64, many(c.n)...)
			ahead, before := w.p.clone(), picture(w.f)
			for k := range 37 - left {
				w.spoil(t, 3+k, filled(3+k))
			}
			was := picture(w.f)
			if left >= len(c.puts) {
				w.do(t, c.action)
				w.same(t)
			} else {
				refused(t, w.f, c.action, api.ErrNoSpace)
				if want := slices.Sorted(slices.Values(c.puts[:left])); !slices.Equal(w.changed(was), want) {
					t.Fatalf("%+v with room for %d: the blocks %v are changed, not %v", c, left, w.changed(was), want)
				}
			}
			w.undo(t, ahead)
			w.unchanged(t, before)
			w.holds(t)
		}
	}
}

// P16.1: just what must be changed is.
func TestAlone(t *testing.T) {
	for _, c := range []struct {
		n int
		action
		want []int
	}{
		{3, adding(1, 9, "other"), []int{43, 49}}, {16, adding(1, 9, "other"), []int{1, 2, 43, 50}}, {160, adding(1, 9, "other"), []int{1, 2, 43, 59, 60}}, {20, setting(1, 9, title(0)), []int{49}}, {20, setting(1, 9, title(17)), []int{50}},
		{20, removing(1, title(19)), []int{43, 50}}, {20, removing(1, title(0)), []int{43, 49, 50}}, {17, removing(1, title(16)), []int{1, 2, 43}}, {3, finding(1, title(0)), []int{}}, {3, listing(1), []int{}}, {3, adding(1, 9, title(0)), []int{}},
		{3, adding(1, 0, ""), []int{}}, {3, setting(1, 9, "other"), []int{}}, {3, removing(1, "other"), []int{}}, {2208, adding(1, 9, "other"), []int{}},
	} {
		w := twinOf(t, 256, many(c.n)...)
		was := picture(w.f)
		asked(w.f, c.action)
		if got := w.changed(was); !slices.Equal(got, c.want) {
			t.Fatalf("%+v: the blocks %v are changed, not %v", c.action, got, c.want)
		}
		w.end(t, true)
		if w.f.S.Dirty() != len(c.want) {
			t.Fatalf("%+v: %d blocks are changed", c.action, w.f.S.Dirty())
		}
	}
}

// changeAll makes all kinds of changes.
func changeAll(t *testing.T, w *twin) {
	t.Helper()
	for _, a := range []action{
		adding(1, 9, "one"), adding(5, 9, "one"), removing(1, title(3)), setting(1, 40, title(4)), adding(1, 10, "two"), removing(1, "one"), removing(1, title(3)), setting(5, 41, "one"), adding(8, 1, "."), adding(8, 1, "three"), removing(8, "three"),
		finding(1, "two"), listing(1), listing(5), adding(1, 10, "two"), removing(1, title(19)),
	} {
		w.do(t, a)
	}
	w.holds(t)
}

// P16.1: what a call did is undone by End(false), and stays behind End(true), Sync and a crash.
func TestUndoneAndKept(t *testing.T) {
	w := twinOf(t, 128, many(20)...)
	ahead, was := w.p.clone(), picture(w.f)
	for _, keep := range []bool{false, true} {
		changeAll(t, w)
		changed := w.p.clone()
		w.end(t, keep)
		if !keep {
			w.p = ahead.clone()
			w.unchanged(t, was)
		}
		w.holds(t)
		w.do(t, listing(1))
		// Not durable: a crash undoes it either way.
		w.crash(t, ahead, true)
		changeAll(t, w)
		if !changed.equal(w.p) {
			t.Fatal("the same calls do something else")
		}
		w.end(t, keep)
		for _, f := range w.both() {
			does(t, "Sync", f.S.Sync(), api.OK)
		}
		if keep {
			ahead = w.p.clone()
		}
		w.crash(t, ahead)
		w.do(t, listing(1))
		w.do(t, finding(1, "two"))
	}
}

// crash lets the power fail and come back, and opens the stores anew; p is what is there then.
func (w *twin) crash(t *testing.T, p plain, keep ...bool) {
	t.Helper()
	w.d.Crash(keep)
	w.mirror.Crash(keep)
	w.p = p.clone()
	w.open(t).holds(t)
}

// P16.1: the power failing at each change of several calls and Syncs: ErrIO, and behind a crash all of a call is there or nothing.
func TestPowerFails(t *testing.T) {
	t.Parallel()
	for _, keep := range [][]bool{nil, {true}, {true, false}, {false, true, true}} {
		for fuse, failed := 0, true; failed; fuse++ {
			w := twinOf(t, 64, many(158)...)
			w.d.SetFuse(fuse)
			w.mirror.SetFuse(fuse)
			before := w.p.clone()
			failed = false
			for k := 0; k < 4 && !failed; k++ {
				before = w.p.clone()
				for j := range 4 {
					w.do(t, adding(1, 9, title(200+4*k+j)))
				}
				w.do(t, adding(5, 9, title(k)))
				w.do(t, removing(1, title(20+k)))
				w.do(t, setting(1, 11, title(30+k)))
				w.do(t, listing(1))
				w.end(t, true)
				failed = w.f.S.Sync() != api.OK
				if w.g.S.Sync(); failed {
					for _, a := range names() {
						refused(t, w.f, a, api.ErrIO)
					}
				} else {
					w.begin(t)
				}
			}
			w.d.Crash(keep)
			w.mirror.Crash(keep)
			w.open(t)
			if failed && w.odd() != 0 {
				w.p = before
			}
			w.holds(t)
			w.do(t, listing(1))
			w.do(t, adding(1, 9, "other"))
			w.do(t, removing(1, title(0)))
			w.holds(t)
		}
	}
}

// draw returns a call on one of the directories, with names of that many, and with something wrong now and then.
func (l *lots) draw(count int) action {
	a := action{"Find", pick(l, dirs), entry(1+l.below(47), title(l.below(count)))}
	if l.below(25) == 0 {
		a.dir = pick(l, inos)
	}
	if l.below(25) == 0 {
		a.e = pick(l, malformed())
	}
	if l.below(25) == 0 {
		a.e.Name = pick(l, ordered)
	}
	switch k := l.below(20); {
	case k < 10:
		a.call = "Add"
	case k < 15:
		a.call = "Remove"
	case k < 17:
		a.call = "Set"
	case k < 18:
		return listing(a.dir)
	}
	return a
}

// lands makes the lists the ones of these that the store has: the last ones that do.
func (w *twin) lands(t *testing.T, ends []plain) {
	t.Helper()
	for _, p := range slices.Backward(ends) {
		w.p = p.clone()
		if w.odd() == 0 {
			return
		}
	}
	t.Fatal("no call has left that behind")
}

// P16.1: long random sequences on several directories beside plain lists, with much room and with little, and with calls that are undone, Syncs and crashes between: there is no space just if more blocks would be used than there is room for.
func TestHistories(t *testing.T) {
	t.Parallel()
	for seed := range 10 {
		l, blocks := lots(seed), []int{64, 64, 128, 192, 256}[seed%5]
		w := twinOf(t, blocks, many(80+20*(seed%5))...)
		room, none := geom.Room(blocks), 0
		// What the calls have left since the last Sync: a crash undoes the last ones of them.
		ends, made := []plain{w.p.clone()}, 0
		for i := range 1500 {
			a := l.draw(120 + seed%3*150)
			if made++; made > 4 {
				w.next(t)
				ends, made = append(ends, w.p.clone()), 0
			}
			full := a.call == "Add" && kindError(a.dir) == api.OK && wellFormed(a.e) && w.p.place(a.dir, a.e.Name) < 0 && w.p.needs()-needs(len(w.p[a.dir]))+needs(len(w.p[a.dir])+1) > room
			if full {
				w.fails(t, a, api.ErrNoSpace)
				w.undo(t, ends[len(ends)-1])
				none, made = none+1, 0
			} else {
				w.do(t, a)
			}
			w.used(t)
			if i%30 == 0 {
				w.holds(t)
				for _, dir := range dirs {
					w.do(t, listing(dir))
				}
			}
			switch k := l.below(90); {
			case k < 3:
				w.undo(t, ends[len(ends)-1])
				made = 0
			case k < 5:
				w.sync(t)
				ends, made = []plain{w.p.clone()}, 0
			case k < 6:
				w.d.Crash([]bool{true, false})
				w.mirror.Crash([]bool{true, false})
				w.open(t).lands(t, ends)
				ends, made = []plain{w.p.clone()}, 0
			}
		}
		if (blocks == 64) != (none > 0) {
			t.Fatalf("%d blocks: there is no space %d times", blocks, none)
		}
		w.sync(t)
		w.crash(t, w.p)
	}
}

// R3: a list that was handed out is as it was, whatever is done afterwards, and what is done with it, with its spare capacity, touches nothing.
func TestApartFromAnswers(t *testing.T) {
	for _, n := range []int{0, 1, 16, 17, 40, 170} {
		w := twinOf(t, 64, many(n)...)
		ahead := w.p.clone()
		kept, e := List(w.f, 1)
		does(t, "List", e, api.OK)
		same := slices.Clone(kept)
		w.do(t, adding(1, 9, "other"))
		w.do(t, setting(1, 9, title(0)))
		w.do(t, removing(1, title(n/2)))
		w.do(t, listing(1))
		if !slices.Equal(kept, same) {
			t.Fatalf("%v, not %v", kept, same)
		}
		w.undo(t, ahead)
		other, _ := List(w.f, 1)
		for _, list := range [][]dirent.Entry{kept, other} {
			full := list[:cap(list)]
			for k := range full {
				full[k] = entry(48, "none")
			}
			answers(t, w.f, listing(1), answer{list: same})
			w.holds(t)
		}
		for k := range other {
			if other[k] != entry(48, "none") {
				t.Fatal("two answers share memory")
			}
			other[k], kept[k] = entry(1, "one"), entry(2, "two")
		}
		answers(t, w.f, listing(1), answer{list: same})
	}
}

// R2: two file systems on two stores have nothing in common, and the same calls do the same; two on one store are one.
func TestStoresApart(t *testing.T) {
	a, b := twinOf(t, 128, many(20)...), twinOf(t, 128, many(20)...)
	changeAll(t, a)
	b.holds(t)
	changeAll(t, b)
	if !a.p.equal(b.p) {
		t.Fatal("the same calls do something else")
	}
	b.unchanged(t, picture(a.f))
	other := table.New(a.f.S)
	answers(t, other, adding(1, 9, "other"), a.follow(adding(1, 9, "other")))
	a.do(t, finding(1, "other"))
	a.do(t, removing(1, title(7)))
	refused(t, other, finding(1, title(7)), api.ErrNoEnt)
	a.holds(t)
	b.do(t, finding(1, "other"))
	b.do(t, finding(1, title(7)))
	b.holds(t)
}

// What the tests write out is what layer 8 says, and what they fill blocks with is no block of a directory.
func TestPlainEntries(t *testing.T) {
	for _, e := range malformed() {
		if wellFormed(e) || dirent.Formed(e) {
			t.Fatalf("%+v is well formed", e)
		}
	}
	for _, name := range ordered {
		if !wellFormed(entry(1, name)) || !dirent.Name(name) {
			t.Fatalf("%q is no name", name)
		}
	}
	seen := map[string]int{}
	for k, e := range many(2208) {
		b, err := dirent.Encode([]dirent.Entry{e})
		if !bytes.Equal(b[:16], bytesOf(e)) || err != api.OK || seen[e.Name] > 0 {
			t.Fatalf("entry %d: %q, %v, not %q", k, b, err, bytesOf(e))
		}
		seen[e.Name]++
	}
	for k, b := range badBytes() {
		if list, e := dirent.Decode(append(slices.Clone(b), make([]byte, 240)...)); len(b) != 16 || e == api.OK && len(list) > 0 {
			t.Fatalf("the bytes %d are an entry", k)
		}
	}
	for n := range 256 {
		if _, e := dirent.Decode(filled(n)); e == api.OK {
			t.Fatalf("the filled block %d is one of a directory", n)
		}
	}
}
