package path

import (
	"bytes"
	"slices"
	"testing"

	"ashlar/api"
	"ashlar/dir"
	"ashlar/dirent"
	"ashlar/disk"
	"ashlar/file"
	"ashlar/fmap"
	"ashlar/geom"
	"ashlar/group"
	"ashlar/inode"
	"ashlar/store"
	"ashlar/super"
	"ashlar/table"
)

// laid returns a disk with a fresh file system, of which the root alone is there. Its free blocks are full of what was there before.
func laid(blocks int) *disk.Disk {
	d, s := disk.New(blocks), super.Super{Blocks: blocks, Table: [6]int{43, 44, 45, 46, 47, 48}}
	for n := range blocks {
		d.Damage(n, filled(n))
	}
	for n := 3; n < 43; n++ {
		d.Damage(n, make([]byte, 256))
	}
	for g := range blocks / 64 {
		owners := group.Fresh(g)
		for k, n := range s.Table {
			if g == 0 {
				owners[n] = api.Owner{Ino: api.Table, At: uint16(k)}
			}
		}
		of, _ := group.Of(g, owners)
		desc, _ := group.Encode(of)
		page, _ := group.Page(owners)
		d.Damage(geom.Desc(g), desc)
		d.Damage(geom.Owners(g), page)
	}
	nodes := make([]inode.Inode, 48)
	nodes[1] = inode.Inode{Kind: api.Dir, Links: 1}
	for k, n := range s.Table {
		b, _ := inode.Encode(nodes[8*k : 8*k+8])
		d.Damage(n, b)
	}
	b, _ := super.Encode(s)
	d.Damage(0, b)
	d.Damage(63, b)
	return d
}

// filled returns bytes that were left in a block by something else.
func filled(n int) []byte {
	b := make([]byte, 256)
	for i := range b {
		b[i] = byte(n*31 + i*7 + n/8 + 201)
	}
	return b
}

// item is something in a tree: its number, the names that lead to it, its kind, and the target of a link.
type item struct {
	ino    int
	at     string
	kind   int
	target string
}

func folder(ino int, at string) item       { return item{ino, at, api.Dir, ""} }
func leaf(ino int, at string) item         { return item{ino, at, api.File, ""} }
func link(ino int, at, target string) item { return item{ino, at, api.Link, target} }

// node is an inode of a plain tree.
type node struct {
	kind   int
	parent int            // of a directory
	names  map[string]int // of a directory
	target string         // of a link
}

// plain is a tree, by the numbers of its inodes. Each directory has its parent.
type plain map[int]*node

// rootAlone returns the tree of an empty root.
func rootAlone() plain { return plain{1: {kind: api.Dir, parent: 1, names: map[string]int{}}} }

// grow adds x, and returns the directory and the name that it gets.
func (p plain) grow(x item) (int, string) {
	parts, _ := partsOf(x.at)
	in := 1
	for _, part := range parts[:len(parts)-1] {
		in = p[in].names[part]
	}
	name := parts[len(parts)-1]
	p[in].names[name] = x.ino
	p[x.ino] = &node{kind: x.kind, parent: in, names: map[string]int{}, target: x.target}
	return in, name
}

// partsOf returns the parts of a path or a target, byte by byte, or the error of one that begins as it should.
func partsOf(s string) ([]string, api.Errno) {
	if len(s) > 200 {
		return nil, api.ErrName
	}
	var parts []string
	part := ""
	for k := range len(s) + 1 {
		if k < len(s) && s[k] != '/' {
			part += s[k : k+1]
			continue
		}
		if part != "" {
			parts = append(parts, part)
		}
		part = ""
	}
	for _, part := range parts {
		if len(part) > 13 || slices.Contains([]byte(part), 0) {
			return nil, api.ErrName
		}
	}
	if len(parts) > 20 {
		return nil, api.ErrName
	}
	return parts, api.OK
}

// parts is what the chapter says of Parts.
func parts(path string) ([]string, api.Errno) {
	if path == "" || path[0] != '/' {
		return nil, api.ErrInval
	}
	return partsOf(path)
}

// walk is what the chapter says of Walk.
func (p plain) walk(path string, follow bool) (Place, api.Errno) {
	list, e := parts(path)
	if e != api.OK {
		return Place{}, e
	}
	return p.from(1, list, 0, follow)
}

// from goes on from that inode, behind that many links.
func (p plain) from(at int, list []string, links int, follow bool) (Place, api.Errno) {
	if len(list) == 0 {
		return Place{at, "", at}, api.OK
	}
	if p[at].kind != api.Dir {
		return Place{}, api.ErrNotDir
	}
	part, rest := list[0], list[1:]
	if part == "." {
		return p.from(at, rest, links, follow)
	}
	if part == ".." {
		return p.from(p[at].parent, rest, links, follow)
	}
	ino := p[at].names[part]
	if ino == 0 && len(rest) > 0 {
		return Place{}, api.ErrNoEnt
	}
	if isLink := ino > 0 && p[ino].kind == api.Link; isLink && (follow || len(rest) > 0) {
		return p.through(at, p[ino].target, rest, links, follow)
	}
	if len(rest) == 0 {
		return Place{at, part, ino}, api.OK
	}
	return p.from(ino, rest, links, follow)
}

// through follows a link in that directory.
func (p plain) through(at int, target string, rest []string, links int, follow bool) (Place, api.Errno) {
	if links == 4 {
		return Place{}, api.ErrLoop
	}
	list, e := partsOf(target)
	if e != api.OK {
		return Place{}, e
	}
	if target == "" {
		return Place{}, api.ErrNoEnt
	}
	if len(list)+len(rest) > 20 {
		return Place{}, api.ErrName
	}
	if target[0] == '/' {
		at = 1
	}
	return p.from(at, append(list, rest...), links+1, follow)
}

// world is a file system, and the plain tree of what is in it.
type world struct {
	d *disk.Disk
	f *table.FS
	p plain
}

// worldOf lays a file system with these items, durable; a call is open.
func worldOf(t *testing.T, blocks int, items ...item) *world {
	t.Helper()
	w := &world{d: laid(blocks), p: rootAlone()}
	w.open(t)
	for _, x := range items {
		w.grow(t, x)
	}
	w.sync(t)
	return w
}

// open opens the store, and a call.
func (w *world) open(t *testing.T) {
	t.Helper()
	s, e := store.Open(w.d)
	does(t, "Open", e, api.OK)
	w.f = table.New(s)
	w.begin(t)
}

func (w *world) begin(t *testing.T) {
	t.Helper()
	does(t, "Begin", w.f.S.Begin(), api.OK)
}

func (w *world) end(t *testing.T, keep bool) {
	t.Helper()
	does(t, "End", w.f.S.End(keep), api.OK)
}

// undo ends the call, of which nothing remains, and opens another one.
func (w *world) undo(t *testing.T) {
	t.Helper()
	w.end(t, false)
	w.begin(t)
}

// sync ends the call, makes everything durable, and opens another one.
func (w *world) sync(t *testing.T) {
	t.Helper()
	w.end(t, true)
	does(t, "Sync", w.f.S.Sync(), api.OK)
	w.begin(t)
}

// grow adds x to the file system and to the tree, and opens another call.
func (w *world) grow(t *testing.T, x item) {
	t.Helper()
	in, name := w.p.grow(x)
	does(t, "Put", w.f.Put(x.ino, inode.Inode{Kind: x.kind, Links: 1}), api.OK)
	does(t, "Add", dir.Add(w.f, in, dirent.Entry{Ino: x.ino, Name: name}), api.OK)
	_, e := file.Write(w.f, x.ino, 0, []byte(x.target))
	does(t, "Write", e, api.OK)
	w.end(t, true)
	w.begin(t)
}

// retarget gives the link another target.
func (w *world) retarget(t *testing.T, ino int, target string) {
	t.Helper()
	does(t, "Resize", file.Resize(w.f, ino, 0), api.OK)
	_, e := file.Write(w.f, ino, 0, []byte(target))
	does(t, "Write", e, api.OK)
	w.p[ino].target = target
}

// spoil makes block n b, within the call.
func (w *world) spoil(t *testing.T, n int, b []byte) {
	t.Helper()
	does(t, "Put", w.f.S.Put(n, b), api.OK)
}

// block returns where block i of the inode is.
func (w *world) block(t *testing.T, ino, i int) int {
	t.Helper()
	n, e := fmap.At(w.f, ino, i)
	does(t, "At", e, api.OK)
	return n
}

// node changes the inode.
func (w *world) node(t *testing.T, ino int, change func(*inode.Inode)) {
	t.Helper()
	x, e := w.f.Get(ino)
	does(t, "Get", e, api.OK)
	change(&x)
	does(t, "Put", w.f.Put(ino, x), api.OK)
}

// does asks for an error.
func does(t *testing.T, what string, e, want api.Errno) {
	t.Helper()
	if e != want {
		t.Fatalf("%s: %v, not %v", what, e, want)
	}
}

// answers asks for an answer.
func answers(t *testing.T, f *table.FS, path string, follow bool, want Place, e api.Errno) {
	t.Helper()
	if got, err := Walk(f, path, follow); got != want || err != e {
		t.Fatalf("%q, %v: %+v, %v, not %+v, %v", path, follow, got, err, want, e)
	}
}

// leads asks for a place, whether a link at the end is followed or not.
func (w *world) leads(t *testing.T, path string, dir int, name string, ino int) {
	t.Helper()
	for _, follow := range []bool{false, true} {
		answers(t, w.f, path, follow, Place{dir, name, ino}, api.OK)
	}
}

// fails asks for an error, with nothing beside it, whether a link at the end is followed or not.
func (w *world) fails(t *testing.T, e api.Errno, paths ...string) {
	t.Helper()
	for _, path := range paths {
		answers(t, w.f, path, false, Place{}, e)
		answers(t, w.f, path, true, Place{}, e)
	}
}

// does holds the answers for these paths beside those of the plain tree.
func (w *world) does(t *testing.T, paths ...string) {
	t.Helper()
	for _, path := range paths {
		for _, follow := range []bool{false, true} {
			want, e := w.p.walk(path, follow)
			answers(t, w.f, path, follow, want, e)
		}
	}
}

// picture returns the bytes of all blocks.
func picture(f *table.FS) [][]byte {
	var all [][]byte
	for n := 0; ; n++ {
		b, e := f.S.Get(n)
		if e != api.OK {
			return all
		}
		all = append(all, b)
	}
}

// unchanged holds that no block is another than in that picture.
func (w *world) unchanged(t *testing.T, was [][]byte) {
	t.Helper()
	if !slices.EqualFunc(picture(w.f), was, bytes.Equal) {
		t.Fatal("a block is changed")
	}
}

// lots draws numbers, the same ones each time.
type lots uint64

// below draws a number from 0 to n - 1.
func (l *lots) below(n int) int {
	*l = *l*6364136223846793005 + 1442695040888963407
	return int(uint64(*l) >> 33 % uint64(n))
}

// pick draws one of these.
func pick[T any](l *lots, list []T) T { return list[l.below(len(list))] }
