package dir

import (
	"bytes"
	"maps"
	"math"
	"slices"
	"testing"

	"ashlar/api"
	"ashlar/dirent"
	"ashlar/disk"
	"ashlar/file"
	"ashlar/fmap"
	"ashlar/geom"
	"ashlar/group"
	"ashlar/inode"
	"ashlar/space"
	"ashlar/store"
	"ashlar/super"
	"ashlar/table"
)

// dirs holds the numbers of the directories of a fresh file system.
var dirs = []int{1, 5, 8, 47}

// The inodes 2 and 3 of a fresh file system are a file and a symbolic link; all others but the directories are free.
const (
	aFile = 2
	aLink = 3
)

// inos holds numbers of directories, of other inodes, of free ones, such that are no inode's, and such that would be one if they were cut to fewer bits.
var inos = []int{
	math.MinInt, math.MinInt + 1, math.MinInt + 5, -1 << 32, -1<<32 + 1, -1<<16 + 1, -255, -48, -47, -5, -2, -1, 0, 1, 2, 3, 4, 5, 6, 7, 8, 9, 15, 16, 31, 40, 46, 47, 48, 49, 53, 64,
	255, 256, 257, 1 << 16, 1<<16 + 1, 1<<16 + 5, 1<<31 + 1, 1 << 32, 1<<32 + 1, 1<<32 + 5, 0xfffe, 0xffff, math.MaxInt - 1, math.MaxInt,
}

// laid returns a disk with a fresh file system, in which the directories are empty. Its free blocks are full of what was there before.
func laid(blocks int) *disk.Disk {
	d, s := disk.New(blocks), super.Super{Blocks: blocks, Table: [6]int{43, 44, 45, 46, 47, 48}}
	for n := range blocks {
		d.Damage(n, filled(n))
	}
	for n := 3; n < 43; n++ {
		d.Damage(n, make([]byte, 256))
	}
	for g := range blocks / 64 {
		owners := group.Fresh(g)
		for k, n := range s.Table {
			if g == 0 {
				owners[n] = api.Owner{Ino: api.Table, At: uint16(k)}
			}
		}
		of, _ := group.Of(g, owners)
		desc, _ := group.Encode(of)
		page, _ := group.Page(owners)
		d.Damage(geom.Desc(g), desc)
		d.Damage(geom.Owners(g), page)
	}
	nodes := make([]inode.Inode, 48)
	for _, ino := range dirs {
		nodes[ino] = inode.Inode{Kind: api.Dir, Links: 1}
	}
	nodes[aFile] = inode.Inode{Kind: api.File, Links: 2}
	nodes[aLink] = inode.Inode{Kind: api.Link, Links: 1}
	for k, n := range s.Table {
		b, _ := inode.Encode(nodes[8*k : 8*k+8])
		d.Damage(n, b)
	}
	b, _ := super.Encode(s)
	d.Damage(0, b)
	d.Damage(63, b)
	return d
}

// filled returns bytes that were left in a block by something else.
func filled(n int) []byte {
	b := make([]byte, 256)
	for i := range b {
		b[i] = byte(n*31 + i*7 + n/8 + 201)
	}
	return b
}

// bytesOf returns the bytes of entries, as chapter 8 tells them.
func bytesOf(list ...dirent.Entry) []byte {
	var b []byte
	for _, e := range list {
		b = append(b, byte(e.Ino), byte(e.Ino>>8), byte(len(e.Name)))
		b = append(b, e.Name...)
		b = append(b, make([]byte, 13-len(e.Name))...)
	}
	return b
}

// entry is shorter than a literal.
func entry(ino int, name string) dirent.Entry { return dirent.Entry{Ino: ino, Name: name} }

// title returns the name with that number: no two have the same one.
func title(k int) string {
	return string([]byte{'a' + byte(k*7%26), 'a' + byte(k/26%26), 'a' + byte(k/676)})[:2+min(1, k/676)]
}

// many returns n entries with different names, in no order.
func many(n int) []dirent.Entry {
	list := make([]dirent.Entry, n)
	for k := range list {
		list[k] = entry(1+k*5%47, title(k))
	}
	return list
}

// wellFormed says when an entry is, as chapter 8 does.
func wellFormed(e dirent.Entry) bool {
	for k := range len(e.Name) {
		if e.Name[k] == 0 || e.Name[k] == '/' {
			return false
		}
	}
	return e.Ino > 0 && e.Ino < 48 && len(e.Name) > 0 && len(e.Name) < 14 && e.Name != "." && e.Name != ".."
}

// malformed holds entries that are none, in each way of chapter 8.
func malformed() []dirent.Entry {
	all := []dirent.Entry{
		entry(0, "ok"), entry(-1, "ok"), entry(48, "ok"), entry(49, "ok"), entry(math.MinInt, "ok"), entry(math.MaxInt, "ok"), entry(1<<16+5, "ok"), entry(1<<32+5, "ok"), entry(256+5, "ok"),
		{}, entry(5, ""), entry(0, ""), entry(5, "."), entry(5, ".."), entry(0, "."),
	}
	for _, name := range []string{"abcdefghijklmn", "abcdefghijklmno", string(make([]byte, 300)), "\x00", "a\x00", "\x00a", "a\x00b", "/", "a/", "/a", "a/b", "abcdefghijkl/", "//", "./", "../"} {
		all = append(all, entry(5, name))
	}
	return all
}

// badBytes returns the bytes of entries that are none, in each way of chapter 8.
func badBytes() [][]byte {
	good := bytesOf(entry(5, "ok"))
	with := func(at int, values ...byte) []byte {
		b := slices.Clone(good)
		copy(b[at:], values)
		return b
	}
	return [][]byte{
		make([]byte, 16), with(0, 0), with(0, 48), with(0, 255), with(1, 1), with(1, 128), with(0, 0, 1), with(2, 0), with(2, 1), with(2, 14), with(2, 255), with(2, 3), with(2, 13), with(3, 0), with(4, 0), with(3, '/'), with(4, '/'),
		with(3, '.', '.'), with(2, 1, '.', 0), with(5, 1), with(15, 1), with(15, 255), with(10, 'x'), slices.Repeat([]byte{0xff}, 16),
	}
}

// action is one call, by its name; Find and Remove have their name in e.
type action struct {
	call string
	dir  int
	e    dirent.Entry
}

func finding(dir int, name string) action      { return action{"Find", dir, entry(0, name)} }
func listing(dir int) action                   { return action{call: "List", dir: dir} }
func adding(dir, ino int, name string) action  { return action{"Add", dir, entry(ino, name)} }
func setting(dir, ino int, name string) action { return action{"Set", dir, entry(ino, name)} }
func removing(dir int, name string) action     { return action{"Remove", dir, entry(0, name)} }
func allFive(dir, ino int, name string) []action {
	return []action{finding(dir, name), listing(dir), adding(dir, ino, name), setting(dir, ino, name), removing(dir, name)}
}

// answer is what a call returns.
type answer struct {
	n    int
	list []dirent.Entry
	e    api.Errno
}

func (x answer) equal(y answer) bool {
	return x.n == y.n && x.e == y.e && slices.Equal(x.list, y.list)
}

// asked makes the call.
func asked(f *table.FS, a action) answer {
	x := answer{}
	switch a.call {
	case "Find":
		x.n, x.e = Find(f, a.dir, a.e.Name)
	case "List":
		x.list, x.e = List(f, a.dir)
	case "Add":
		x.e = Add(f, a.dir, a.e)
	case "Set":
		x.e = Set(f, a.dir, a.e)
	case "Remove":
		x.e = Remove(f, a.dir, a.e.Name)
	}
	return x
}

// answers asks for an answer.
func answers(t *testing.T, f *table.FS, a action, want answer) {
	t.Helper()
	if got := asked(f, a); !got.equal(want) {
		t.Fatalf("%+v: %+v, not %+v", a, got, want)
	}
}

// refused asks for an error, with nothing beside it.
func refused(t *testing.T, f *table.FS, a action, want api.Errno) {
	t.Helper()
	answers(t, f, a, answer{e: want})
}

// does asks for an error.
func does(t *testing.T, what string, e, want api.Errno) {
	t.Helper()
	if e != want {
		t.Fatalf("%s: %v, not %v", what, e, want)
	}
}

// plain is a file system as plain lists: the entries of each directory, in the order of their bytes.
type plain map[int][]dirent.Entry

// clone returns the same lists, of which changes are apart.
func (p plain) clone() plain {
	q := maps.Clone(p)
	for ino := range q {
		q[ino] = slices.Clone(q[ino])
	}
	return q
}

// equal reports whether both have the same lists.
func (p plain) equal(q plain) bool { return maps.EqualFunc(p, q, slices.Equal[[]dirent.Entry]) }

// place returns the place of the name in that directory, or -1.
func (p plain) place(dir int, name string) int {
	for k, e := range p[dir] {
		if e.Name == name {
			return k
		}
	}
	return -1
}

// kindError returns the error of the directory's number.
func kindError(ino int) api.Errno {
	switch {
	case slices.Contains(dirs, ino):
		return api.OK
	case ino == aFile || ino == aLink:
		return api.ErrNotDir
	}
	return api.ErrArg
}

// sorted returns the entries ordered by name, byte by byte.
func sorted(list []dirent.Entry) []dirent.Entry {
	list = slices.Clone(list)
	slices.SortFunc(list, func(a, b dirent.Entry) int { return bytes.Compare([]byte(a.Name), []byte(b.Name)) })
	return list
}

// twin is a file system on a store, on which package dir works, and another one of the same blocks, on which layer 15 alone does what the chapter says; p has the lists.
type twin struct {
	d, mirror *disk.Disk
	f, g      *table.FS
	p         plain
}

// twinOf lays the file systems, in which directory 1 has the entries of list; a call is open.
func twinOf(t *testing.T, blocks int, list ...dirent.Entry) *twin {
	t.Helper()
	w := &twin{d: laid(blocks), mirror: laid(blocks), p: plain{}}
	w.open(t)
	w.fill(t, 1, list)
	return w
}

// both returns the two file systems.
func (w *twin) both() []*table.FS { return []*table.FS{w.f, w.g} }

// open opens the stores, and a call on each.
func (w *twin) open(t *testing.T) *twin {
	t.Helper()
	s, e := store.Open(w.d)
	does(t, "Open", e, api.OK)
	m, e := store.Open(w.mirror)
	does(t, "Open", e, api.OK)
	w.f, w.g = table.New(s), table.New(m)
	w.begin(t)
	return w
}

func (w *twin) begin(t *testing.T) {
	t.Helper()
	for _, f := range w.both() {
		does(t, "Begin", f.S.Begin(), api.OK)
	}
}

// end ends the calls.
func (w *twin) end(t *testing.T, keep bool) {
	t.Helper()
	for _, f := range w.both() {
		does(t, "End", f.S.End(keep), api.OK)
	}
}

// next ends the calls, and opens others.
func (w *twin) next(t *testing.T) {
	t.Helper()
	w.end(t, true)
	w.begin(t)
}

// sync ends the calls, makes everything durable, and opens others.
func (w *twin) sync(t *testing.T) {
	t.Helper()
	w.end(t, true)
	for _, f := range w.both() {
		does(t, "Sync", f.S.Sync(), api.OK)
	}
	w.begin(t)
}

// undo ends the calls, of which nothing remains, and opens others; p is what was there ahead of them.
func (w *twin) undo(t *testing.T, p plain) {
	t.Helper()
	w.end(t, false)
	w.begin(t)
	w.p = p.clone()
}

// fill gives the directory these entries, by layer 15, and makes them durable.
func (w *twin) fill(t *testing.T, dir int, list []dirent.Entry) {
	t.Helper()
	w.raw(t, dir, bytesOf(list...))
	w.p[dir] = slices.Clone(list)
}

// raw gives the directory these bytes, by layer 15, and makes them durable.
func (w *twin) raw(t *testing.T, dir int, b []byte) {
	t.Helper()
	for _, f := range w.both() {
		does(t, "Resize", file.Resize(f, dir, 0), api.OK)
	}
	w.next(t)
	for at := 0; at < len(b); at += 1024 {
		for _, f := range w.both() {
			_, e := file.Write(f, dir, at, b[at:])
			does(t, "Write", e, api.OK)
		}
		w.next(t)
	}
	w.sync(t)
}

// spoil makes block n b, within the calls.
func (w *twin) spoil(t *testing.T, n int, b []byte) {
	t.Helper()
	for _, f := range w.both() {
		does(t, "Put", f.S.Put(n, b), api.OK)
	}
}

// relocate makes n the location of block i of directory 1; owners and bytes are left as they are.
func (w *twin) relocate(t *testing.T, i, n int) {
	t.Helper()
	for _, f := range w.both() {
		does(t, "Set", fmap.Set(f, 1, i, n), api.OK)
	}
}

// node changes the inode of directory 1.
func (w *twin) node(t *testing.T, change func(*inode.Inode)) {
	t.Helper()
	for _, f := range w.both() {
		node, e := f.Get(1)
		does(t, "Get", e, api.OK)
		change(&node)
		does(t, "Put", f.Put(1, node), api.OK)
	}
}

// occupy gives all free blocks but those of list to inode 2, and makes that durable.
func (w *twin) occupy(t *testing.T, but ...int) {
	t.Helper()
	for _, f := range w.both() {
		s, _ := f.Super()
		for n := range s.Blocks {
			if o, _ := space.Owner(f.S, n); o == (api.Owner{}) && !slices.Contains(but, n) {
				does(t, "SetOwner", space.SetOwner(f.S, n, api.Owner{Ino: aFile}), api.OK)
			}
		}
	}
	w.sync(t)
}

// store makes e the entry at that place of the directory, by layer 15.
func (w *twin) store(dir, at int, e dirent.Entry) api.Errno {
	if _, err := file.Write(w.g, dir, 16*at, bytesOf(e)); err != api.OK {
		return err
	}
	w.p[dir] = append(slices.Clone(w.p[dir][:at]), append([]dirent.Entry{e}, w.p[dir][min(at+1, len(w.p[dir])):]...)...)
	return api.OK
}

// follow does plainly what the call does to a directory that is clean, and says what it returns.
func (w *twin) follow(a action) answer {
	if e := kindError(a.dir); e != api.OK {
		return answer{e: e}
	}
	list, at := w.p[a.dir], w.p.place(a.dir, a.e.Name)
	if (a.call == "Add" || a.call == "Set") && !wellFormed(a.e) {
		return answer{e: api.ErrArg}
	}
	if at < 0 && (a.call == "Find" || a.call == "Set" || a.call == "Remove") {
		return answer{e: api.ErrNoEnt}
	}
	switch a.call {
	case "Find":
		return answer{n: list[at].Ino}
	case "List":
		return answer{list: sorted(list)}
	case "Set":
		return answer{e: w.store(a.dir, at, a.e)}
	case "Remove":
		return answer{e: w.remove(a.dir, at)}
	}
	if at >= 0 {
		return answer{e: api.ErrExist}
	}
	return answer{e: w.store(a.dir, len(list), a.e)}
}

// remove moves the last entry of the directory to that place, and cuts its bytes off.
func (w *twin) remove(dir, at int) api.Errno {
	last := len(w.p[dir]) - 1
	if at < last {
		if e := w.store(dir, at, w.p[dir][last]); e != api.OK {
			return e
		}
	}
	if e := file.Resize(w.g, dir, 16*last); e != api.OK {
		return e
	}
	w.p[dir] = w.p[dir][:last]
	return api.OK
}

// do makes the call, and holds its answer.
func (w *twin) do(t *testing.T, a action) {
	t.Helper()
	answers(t, w.f, a, w.follow(a))
}

// fails makes a call that returns that error; it and layer 15 have changed the same ahead of that.
func (w *twin) fails(t *testing.T, a action, want api.Errno) {
	t.Helper()
	if x := w.follow(a); x.e != want {
		t.Fatalf("%+v: layer 15 returns %v, not %v", a, x.e, want)
	}
	refused(t, w.f, a, want)
	w.same(t)
}

// picture returns the bytes of all blocks.
func picture(f *table.FS) [][]byte {
	var all [][]byte
	for n := 0; ; n++ {
		b, e := f.S.Get(n)
		if e != api.OK {
			return all
		}
		all = append(all, b)
	}
}

// changed returns the blocks that are others than in that picture.
func (w *twin) changed(was [][]byte) []int {
	list := []int{}
	for n, b := range picture(w.f) {
		if !bytes.Equal(b, was[n]) {
			list = append(list, n)
		}
	}
	return list
}

// unchanged holds that no block is another than in that picture.
func (w *twin) unchanged(t *testing.T, was [][]byte) {
	t.Helper()
	if list := w.changed(was); len(list) > 0 {
		t.Fatalf("the blocks %v are changed", list)
	}
}

// same holds that each block is as layer 15 left it.
func (w *twin) same(t *testing.T) {
	t.Helper()
	w.unchanged(t, picture(w.g))
}

// holds holds each block, the bytes of the directories, and the blocks that they use.
func (w *twin) holds(t *testing.T) {
	t.Helper()
	w.same(t)
	if dir := w.odd(); dir != 0 {
		b, e := file.Read(w.f, dir, 0, math.MaxInt)
		t.Fatalf("directory %d is %q, %v, not %v", dir, b, e, w.p[dir])
	}
}

// odd returns the first directory that has not the entries of its list, or 0.
func (w *twin) odd() int {
	for _, dir := range dirs {
		b, e := file.Read(w.f, dir, 0, math.MaxInt)
		if e != api.OK || !bytes.Equal(b, bytesOf(w.p[dir]...)) {
			return dir
		}
	}
	return 0
}

// needs says how many blocks a directory of n entries uses, its map with them.
func needs(n int) int {
	if n > 160 {
		return (n+15)/16 + 1
	}
	return (n + 15) / 16
}

// needs says how many blocks all directories use.
func (p plain) needs() int {
	count := 0
	for _, list := range p {
		count += needs(len(list))
	}
	return count
}

// used holds how many open blocks are used: the table, and those of the directories.
func (w *twin) used(t *testing.T) {
	t.Helper()
	s, _ := w.f.Super()
	if n, e := space.Used(w.f.S, s.Blocks); n != 6+w.p.needs() || e != api.OK {
		t.Fatalf("%d blocks are used, %v, not %d", n, e, 6+w.p.needs())
	}
}

// lots draws numbers, the same ones each time.
type lots uint64

// below draws a number from 0 to n - 1.
func (l *lots) below(n int) int {
	*l = *l*6364136223846793005 + 1442695040888963407
	return int(uint64(*l) >> 33 % uint64(n))
}

// pick draws one of these.
func pick[T any](l *lots, list []T) T { return list[l.below(len(list))] }
