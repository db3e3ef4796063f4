package path

import (
	"math"
	"slices"
	"strings"
	"testing"

	"ashlar/api"
	"ashlar/dir"
	"ashlar/dirent"
	"ashlar/file"
	"ashlar/inode"
	"ashlar/store"
	"ashlar/table"
)

// splits asks for the parts of a path.
func splits(t *testing.T, path string, want ...string) {
	t.Helper()
	if got, e := Parts(path); !slices.Equal(got, want) || e != api.OK {
		t.Fatalf("%q: %q, %v, not %q", path, got, e, want)
	}
}

// wrong is a path of which Parts returns an error.
type wrong struct {
	path string
	e    api.Errno
}

// wrongs holds such paths, in each way of the chapter.
func wrongs() []wrong {
	var list []wrong
	add := func(e api.Errno, paths ...string) {
		for _, path := range paths {
			list = append(list, wrong{path, e})
		}
	}
	// No slash at the begin, whatever else is wrong.
	add(api.ErrInval, "", "a", "a/", "a/b", ".", "..", "./", "../a", "\x00", "\x00/a", " /a", "\\a", "\xff/", "\xef\xbc\x8f", "abcdefghijklmn", "abcdefghijklmn/", "a\x00", "a/b\x00")
	for _, n := range []int{200, 201, 202, 1000, 1 << 20} {
		add(api.ErrInval, strings.Repeat("a", n), "a"+strings.Repeat("/", n-1), strings.Repeat("a/", n))
	}
	// Too long, also with nothing else that is wrong.
	for _, n := range []int{201, 202, 255, 256, 257, 456, 1000, 65736, 1 << 20} {
		add(api.ErrName, strings.Repeat("/", n), strings.Repeat("/", n-1)+"a", "/a"+strings.Repeat("/", n-2), "/."+strings.Repeat("/", n-4)+"..", strings.Repeat("/abcdefghi", n)[:n], strings.Repeat("/a", n)[:n], "/"+strings.Repeat("a", n-1))
	}
	// A part that is too long, or has a zero byte: the first, the last, one between, alone.
	for _, part := range []string{
		"abcdefghijklmn", "abcdefghijklmno", strings.Repeat("a", 26), strings.Repeat("a", 190), "..............", strings.Repeat("\xff", 14), strings.Repeat("é", 7), strings.Repeat("é", 13), "abcdefghijkl\xe2\x82\xac",
		"\x00", "\x00\x00", "\x00a", "a\x00", "a\x00b", "abcdefghijkl\x00", "\x00bcdefghijklm", ".\x00", "\x00.", "..\x00", "\xff\x00", strings.Repeat("\x00", 13),
	} {
		add(api.ErrName, "/"+part, "/"+part+"/", "//"+part+"//", "/a/"+part, "/"+part+"/a", "/a/"+part+"/b", "/../"+part, "/"+part+"/.", "/./"+part+"/..", "/"+part+"/"+part)
	}
	// More parts than there may be, by one and by many.
	for _, n := range []int{21, 22, 40, 66} {
		add(api.ErrName, strings.Repeat("/a", n), strings.Repeat("/.", n), strings.Repeat("/..", n), strings.Repeat("//a", n), strings.Repeat("/a", n)+"/", strings.Repeat("/a", n-1)+"/.", "/.."+strings.Repeat("/a", n-1), "/"+strings.Repeat("a/", n))
	}
	return list
}

// P17.1: each error of Parts, with no parts beside it.
func TestPartsErrors(t *testing.T) {
	for _, c := range wrongs() {
		if got, e := Parts(c.path); len(got) > 0 || e != c.e {
			t.Fatalf("%d bytes, %.40q: %q, %v, not %v", len(c.path), c.path, got, e, c.e)
		}
	}
}

// P17.1: slashes at the begin, at the end, between, and alone; . and .. are parts as any other.
func TestParts(t *testing.T) {
	for n := 1; n <= 200; n++ {
		splits(t, strings.Repeat("/", n))
	}
	splits(t, "/a", "a")
	splits(t, "/a/", "a")
	splits(t, "//a", "a")
	splits(t, "//a//", "a")
	splits(t, "/a/b", "a", "b")
	splits(t, "/a///b", "a", "b")
	splits(t, "///b//a/////c///", "b", "a", "c")
	splits(t, "/a/a/a", "a", "a", "a")
	splits(t, "/.", ".")
	splits(t, "/..", "..")
	splits(t, "/./..//...", ".", "..", "...")
	splits(t, "/a/../b", "a", "..", "b")
	splits(t, "/.a/..b/c./d..", ".a", "..b", "c.", "d..")
	splits(t, "/ / /a b", " ", " ", "a b")
	splits(t, "/\\/a\\b", "\\", "a\\b")
	splits(t, "/\n/\t", "\n", "\t")
}

// P17.1: the longest path, and one byte less, of parts and of slashes.
func TestPartsLength(t *testing.T) {
	for _, n := range []int{199, 200} {
		splits(t, strings.Repeat("/", n-1)+"a", "a")
		splits(t, "/a"+strings.Repeat("/", n-2), "a")
		splits(t, "/a"+strings.Repeat("/", n-3)+"b", "a", "b")
		splits(t, "/."+strings.Repeat("/", n-4)+"..", ".", "..")
		splits(t, "/abcdefghijklm"+strings.Repeat("/", n-28)+"nopqrstuvwxyz", "abcdefghijklm", "nopqrstuvwxyz")
	}
	splits(t, strings.Repeat("/abcdefghi", 20), slices.Repeat([]string{"abcdefghi"}, 20)...)
	splits(t, strings.Repeat("/abcdefghijklm", 14)+"/xyz", append(slices.Repeat([]string{"abcdefghijklm"}, 14), "xyz")...)
}

// P17.1: parts of each length, the first, the last and one between: their bytes count.
func TestPartLength(t *testing.T) {
	for n := 1; n <= 13; n++ {
		part := "abcdefghijklm"[:n]
		splits(t, "/"+part, part)
		splits(t, "/"+part+"/x", part, "x")
		splits(t, "/x/"+part, "x", part)
		splits(t, "/x//"+part+"//y/", "x", part, "y")
		splits(t, "/"+part+"/"+part, part, part)
	}
	for _, part := range []string{"éééééé", "ééééééa", "\xe2\x82\xac\xe2\x82\xac\xe2\x82\xac\xe2\x82\xac", strings.Repeat("\x80", 13), strings.Repeat("\xff", 13), "............."} {
		splits(t, "/"+part, part)
		splits(t, "/.././"+part+"/..", "..", ".", part, "..")
	}
}

// P17.1: as many parts as there may be, and one less.
func TestPartsCount(t *testing.T) {
	for _, part := range []string{"a", ".", "..", "\xff", "abcdefg"} {
		for _, n := range []int{1, 2, 18, 19, 20} {
			want := slices.Repeat([]string{part}, n)
			splits(t, strings.Repeat("/"+part, n), want...)
			splits(t, strings.Repeat("//"+part, n), want...)
			splits(t, strings.Repeat("/"+part, n)+"///", want...)
		}
	}
	for n := range 20 {
		want := slices.Repeat([]string{"a"}, 20)
		want[n] = ".."
		splits(t, "/"+strings.Join(want, "/"), want...)
		splits(t, "/"+strings.Join(want, "//")+"/", want...)
	}
}

// P17.1: every byte at each place of a part.
func TestPartsBytes(t *testing.T) {
	for c := range 256 {
		s := string([]byte{byte(c)})
		for _, path := range []string{"/" + s, "/" + s + "b", "/a" + s, "/a" + s + "b", "/a/" + s + "/b", "/" + s + s + s, "/é" + s + "\xff"} {
			want, e := parts(path)
			if got, err := Parts(path); !slices.Equal(got, want) || err != e {
				t.Fatalf("%q: %q, %v, not %q, %v", path, got, err, want, e)
			}
		}
		if c > 0 && c != '/' {
			splits(t, "/"+s, s)
			splits(t, "/"+s+"/a"+s+"/"+s+"a", s, "a"+s, s+"a")
		}
	}
}

// P17.1: random texts beside a plain reading, byte by byte.
func TestPartsRandom(t *testing.T) {
	l, met := lots(1), map[api.Errno]int{}
	for range 60000 {
		path := pick(&l, []string{"", "/", "/", "/", "/", "/"})
		most := pick(&l, []int{5, 20, 60, 205})
		for k := l.below(35); k >= 0 && len(path) < most; k-- {
			path += pick(&l, []string{"/", "//", "/a", "/.", "/..", "/bc", "b", "c/", ".", "é", "\xff", "abcdefg", "/abcdefghijkl", "/abcdefghijklm", "/////////////"})
		}
		if l.below(50) == 0 {
			path += "\x00"
		}
		want, e := parts(path)
		if got, err := Parts(path); !slices.Equal(got, want) || err != e {
			t.Fatalf("%q: %q, %v, not %q, %v", path, got, err, want, e)
		}
		met[e]++
	}
	for _, e := range []api.Errno{api.OK, api.ErrInval, api.ErrName} {
		if met[e] < 1000 {
			t.Fatalf("%v is met %d times", e, met[e])
		}
	}
}

// R3: what is done with the parts that were handed out, with their spare capacity, touches no later answer.
func TestPartsApart(t *testing.T) {
	for _, path := range []string{"/", "/a", "/a/b", "/a/b/c//d/", strings.Repeat("/a", 20)} {
		want, _ := parts(path)
		one, _ := Parts(path)
		other, _ := Parts(path)
		full := one[:cap(one)]
		for k := range full {
			full[k] = "changed"
		}
		if !slices.Equal(other, want) {
			t.Fatalf("%q: %q, not %q", path, other, want)
		}
		splits(t, path, want...)
		_ = append(other[:0], "other", "other")
		splits(t, path, want...)
	}
}

// P17.2: the chapter's example.
func TestExample(t *testing.T) {
	w := worldOf(t, 64, folder(2, "/a"), leaf(3, "/b"), leaf(4, "/c"), folder(5, "/a/s"), leaf(6, "/a/b"), link(7, "/k", "a/s"))
	w.leads(t, "/b", 1, "b", 3)
	w.leads(t, "/a/../b", 1, "b", 3)
	w.leads(t, "/a/b", 2, "b", 6)
	w.fails(t, api.ErrNotDir, "/c/../b")
	w.fails(t, api.ErrNoEnt, "/d/../b")
	// The directory that k leads to is in a.
	w.leads(t, "/k/../b", 2, "b", 6)
}

// P17.2: paths without parts, and of . and .. alone: the root is its own parent.
func TestRoot(t *testing.T) {
	for _, w := range []*world{worldOf(t, 64), worldOf(t, 64, folder(2, "/a"), leaf(3, "/a/b"), link(4, "/c", "a"))} {
		for n := 1; n <= 200; n++ {
			w.leads(t, strings.Repeat("/", n), 1, "", 1)
		}
		for n := 1; n <= 20; n++ {
			for _, part := range []string{"/.", "/..", "//.", "/..//"} {
				w.leads(t, strings.Repeat(part, n), 1, "", 1)
			}
		}
		for _, path := range []string{"/./..", "/../.", "/.././../.", "/./", "/../", "//..//.//"} {
			w.leads(t, path, 1, "", 1)
		}
		w.leads(t, "/../none", 1, "none", 0)
		w.leads(t, "/./../none/", 1, "none", 0)
	}
}

// P17.2: . and .. below the root, through several directories and back.
func TestDots(t *testing.T) {
	w := worldOf(t, 64, folder(2, "/a"), folder(3, "/a/b"), folder(4, "/a/b/c"), leaf(5, "/a/b/c/f"), folder(6, "/x"), folder(7, "/x/b"), leaf(8, "/x/b/f"), leaf(9, "/f"))
	for _, c := range []struct {
		path string
		at   int
	}{
		{"/a/.", 2}, {"/a/./", 2}, {"/a/./.", 2}, {"/a/..", 1}, {"/a/../", 1}, {"/a/../..", 1}, {"/a/b/.", 3}, {"/a/b/..", 2}, {"/a/b/c/..", 3}, {"/a/b/c/../..", 2}, {"/a/b/c/../../..", 1}, {"/a/b/c/../../../..", 1},
		{"/a/./b/./c/./..", 3}, {"/a/b/../b/../b/..", 2}, {"/a/b/../b/c/../c/.", 4}, {"/a/b/c/../../../x/b/..", 6}, {"/a/../x/../a/b/..", 2}, {"/x/b/../../a/b/..", 2}, {"/a/b/../../x/b/..", 6}, {"/a/b/../../x/b/../..", 1}, {"/../a/..", 1},
		{"/a/b/../../x/b/../../a/b/c/..", 3}, {"/a/b/../../x/b/../../a/b/../..", 1}, {"//a//b//..//", 2},
	} {
		w.leads(t, c.path, c.at, "", c.at)
	}
	w.leads(t, "/a/b/c/../c/f", 4, "f", 5)
	w.leads(t, "/a/b/../../f", 1, "f", 9)
	w.leads(t, "/a/../x/b/f", 7, "f", 8)
	w.leads(t, "/a/b/../b", 2, "b", 3)
	w.leads(t, "/a/b/../../x/b", 6, "b", 7)
	w.leads(t, "/a/b/../f", 2, "f", 0)
	w.leads(t, "/a/b/../c", 2, "c", 0)
	w.leads(t, "/a/b/../../a", 1, "a", 2)
	// What is no name of this directory is none, though it was one of another.
	w.fails(t, api.ErrNoEnt, "/a/b/c/../../c/f", "/a/b/../x/b", "/a/b/c/b/f", "/x/../b/f")
}

// P17.2: directories as deep as a path can tell, and back.
func TestDeep(t *testing.T) {
	var items []item
	for k := 1; k <= 20; k++ {
		items = append(items, folder(k+1, strings.Repeat("/n", k)))
	}
	w := worldOf(t, 128, items...)
	for k := 1; k <= 20; k++ {
		w.leads(t, strings.Repeat("/n", k), k, "n", k+1)
		for j := 1; j <= k && k+j <= 20; j++ {
			w.leads(t, strings.Repeat("/n", k)+strings.Repeat("/..", j), k+1-j, "", k+1-j)
			w.leads(t, "/"+strings.Repeat("n/", k)+strings.Repeat("../", j-1)+"x", k+2-j, "x", 0)
		}
		if k < 20 {
			w.leads(t, strings.Repeat("/n", k)+"/.", k+1, "", k+1)
			w.fails(t, api.ErrNoEnt, strings.Repeat("/n", k-1)+"/x/n", strings.Repeat("/n", k-1)+"/x/.")
		}
	}
	w.fails(t, api.ErrName, strings.Repeat("/n", 21), strings.Repeat("/n", 20)+"/.")
}

// P17.2: a last part that exists: a file, a directory, a link that is followed or not.
func TestLast(t *testing.T) {
	w := worldOf(t, 64, folder(2, "/d"), leaf(3, "/d/f"), link(4, "/d/toFile", "f"), link(5, "/d/toDir", "../e"), folder(6, "/e"), link(7, "/far", "d/toDir"), leaf(47, "/abcdefghijklm"), folder(46, "/\xff\x80"), leaf(45, "/..."))
	for _, end := range []string{"", "/", "///"} {
		w.leads(t, "/d"+end, 1, "d", 2)
		w.leads(t, "/d/f"+end, 2, "f", 3)
		w.leads(t, "/e"+end, 1, "e", 6)
		w.leads(t, "/abcdefghijklm"+end, 1, "abcdefghijklm", 47)
		w.leads(t, "/\xff\x80"+end, 1, "\xff\x80", 46)
		w.leads(t, "/..."+end, 1, "...", 45)
		answers(t, w.f, "/d/toFile"+end, false, Place{2, "toFile", 4}, api.OK)
		answers(t, w.f, "/d/toFile"+end, true, Place{2, "f", 3}, api.OK)
		answers(t, w.f, "/d/toDir"+end, false, Place{2, "toDir", 5}, api.OK)
		answers(t, w.f, "/d/toDir"+end, true, Place{1, "e", 6}, api.OK)
		answers(t, w.f, "/far"+end, false, Place{1, "far", 7}, api.OK)
		answers(t, w.f, "/far"+end, true, Place{1, "e", 6}, api.OK)
	}
	// Behind a link, . and .. are the last part: it is followed either way.
	w.leads(t, "/d/toDir/.", 6, "", 6)
	w.leads(t, "/far/..", 1, "", 1)
}

// P17.2: a last part that does not exist: the place that it would have; one that is not the last is ErrNoEnt.
func TestMissing(t *testing.T) {
	w := worldOf(t, 64, folder(2, "/d"), folder(3, "/d/e"), leaf(4, "/d/e/f"), link(5, "/l", "d/e"), folder(6, "/empty"))
	for _, name := range []string{"none", "D", "dd", "d ", " d", "abcdefghijklm", "\xff", "...", ".d", "d.", "e\x01"} {
		for _, end := range []string{"", "/", "//"} {
			w.leads(t, "/"+name+end, 1, name, 0)
			w.leads(t, "///"+name+end, 1, name, 0)
			w.leads(t, "/d/"+name+end, 2, name, 0)
			w.leads(t, "/d/e/"+name+end, 3, name, 0)
			w.leads(t, "/d/e/../"+name+end, 2, name, 0)
			w.leads(t, "/d/e/./"+name+end, 3, name, 0)
			w.leads(t, "/d/../"+name+end, 1, name, 0)
			w.leads(t, "/../"+name+end, 1, name, 0)
			w.leads(t, "/l/"+name+end, 3, name, 0)
			w.leads(t, "/l/../"+name+end, 2, name, 0)
			w.leads(t, "/empty/"+name+end, 6, name, 0)
		}
		for _, rest := range []string{"/a", "/.", "/..", "/../d", "/" + name, "/a/b/c", "/./f", "//."} {
			w.fails(t, api.ErrNoEnt, "/"+name+rest, "/d/"+name+rest, "/d/e/../"+name+rest, "/l/"+name+rest, "/empty/"+name+rest, "/./"+name+rest)
		}
	}
	// Names of one directory are none of another.
	w.leads(t, "/e", 1, "e", 0)
	w.leads(t, "/d/f", 2, "f", 0)
	w.leads(t, "/d/l", 2, "l", 0)
	w.fails(t, api.ErrNoEnt, "/e/f", "/d/d/e", "/d/l/f")
}

// P17.2: a part behind a file, a name, . or .., as the last one and as one between.
func TestFileBetween(t *testing.T) {
	w := worldOf(t, 64, leaf(2, "/f"), folder(3, "/d"), leaf(4, "/d/g"), link(5, "/toF", "f"), link(6, "/d/toG", "/d/g"), link(7, "/toTo", "d/toG"))
	for _, rest := range []string{"/x", "/.", "/..", "/f", "/x/y", "/./x", "/../x", "/../f", "/x/..", "/../..", "/x/y/z", "//x//", "/./", "/../"} {
		w.fails(t, api.ErrNotDir, "/f"+rest, "/./f"+rest, "/d/g"+rest, "/d/../f"+rest, "/d/./g"+rest, "/toF"+rest, "/d/toG"+rest, "/toTo"+rest, "/d/../toTo"+rest)
	}
	// A slash at the end is no part.
	for _, end := range []string{"", "/", "//"} {
		w.leads(t, "/f"+end, 1, "f", 2)
		w.leads(t, "/d/g"+end, 3, "g", 4)
		answers(t, w.f, "/toTo"+end, true, Place{3, "g", 4}, api.OK)
	}
	// Nor is there one within a target: what it has behind a file is a part.
	for _, c := range []struct {
		target string
		e      api.Errno
	}{{"f/x", api.ErrNotDir}, {"f/.", api.ErrNotDir}, {"f/..", api.ErrNotDir}, {"/d/g/x", api.ErrNotDir}, {"d/g/../g", api.ErrNotDir}, {"toTo/x", api.ErrNotDir}, {"f/x/y", api.ErrNotDir}, {"none/x", api.ErrNoEnt}} {
		w.retarget(t, 5, c.target)
		answers(t, w.f, "/toF", true, Place{}, c.e)
		answers(t, w.f, "/toF", false, Place{1, "toF", 5}, api.OK)
		w.fails(t, c.e, "/toF/x", "/toF/.", "/toF/..")
	}
}

// P17.2: where each target leads, as the last part and as one between: the link is in a directory of its own.
func TestTargets(t *testing.T) {
	w := worldOf(t, 64, folder(2, "/d"), folder(3, "/d/e"), leaf(4, "/d/e/f"), folder(5, "/x"), leaf(6, "/x/f"), link(7, "/d/l", "e"), folder(8, "/d/e/h"), link(9, "/abs", "/d/e"), link(10, "/x/rel", "../d/e"), link(11, "/d/e/up", ".."))
	for _, c := range []struct {
		target string
		last   Place // of /d/l
		at     int   // /d/l/. is this directory, or 0 if it is none
		parent int   // that of /d/l/..
	}{
		{"e", Place{2, "e", 3}, 3, 2}, {"e/", Place{2, "e", 3}, 3, 2}, {"e///", Place{2, "e", 3}, 3, 2}, {"./e", Place{2, "e", 3}, 3, 2}, {".//e//", Place{2, "e", 3}, 3, 2}, {"../d/e", Place{2, "e", 3}, 3, 2},
		{"/d/e", Place{2, "e", 3}, 3, 2}, {"//d///e//", Place{2, "e", 3}, 3, 2}, {"/x", Place{1, "x", 5}, 5, 1}, {"/x/", Place{1, "x", 5}, 5, 1}, {"../x", Place{1, "x", 5}, 5, 1}, {"e/../../x", Place{1, "x", 5}, 5, 1},
		{".", Place{2, "", 2}, 2, 1}, {"./", Place{2, "", 2}, 2, 1}, {"./.", Place{2, "", 2}, 2, 1}, {"..", Place{1, "", 1}, 1, 1}, {"../..", Place{1, "", 1}, 1, 1}, {"../../..", Place{1, "", 1}, 1, 1}, {"e/..", Place{2, "", 2}, 2, 1}, {"e/.", Place{3, "", 3}, 3, 2},
		{"/", Place{1, "", 1}, 1, 1}, {"//", Place{1, "", 1}, 1, 1}, {strings.Repeat("/", 200), Place{1, "", 1}, 1, 1}, {"/.", Place{1, "", 1}, 1, 1}, {"/..", Place{1, "", 1}, 1, 1}, {"/d", Place{1, "d", 2}, 2, 1}, {"/d/.", Place{2, "", 2}, 2, 1},
		{"e/h", Place{3, "h", 8}, 8, 3}, {"e/./h", Place{3, "h", 8}, 8, 3}, {"/abs", Place{2, "e", 3}, 3, 2}, {"../abs", Place{2, "e", 3}, 3, 2}, {"/abs/h", Place{3, "h", 8}, 8, 3}, {"/x/rel", Place{2, "e", 3}, 3, 2}, {"../x/rel/h/", Place{3, "h", 8}, 8, 3},
		{"e/up", Place{2, "", 2}, 2, 1}, {"/x/rel/up", Place{2, "", 2}, 2, 1}, {"e/up/../x", Place{1, "x", 5}, 5, 1}, {"/x/rel/..", Place{2, "", 2}, 2, 1},
		{"e/f", Place{3, "f", 4}, 0, 0}, {"/x/f", Place{5, "f", 6}, 0, 0}, {"../x/f//", Place{5, "f", 6}, 0, 0}, {"/x/rel/f", Place{3, "f", 4}, 0, 0},
		{"none", Place{2, "none", 0}, 0, 0}, {"none/", Place{2, "none", 0}, 0, 0}, {"./none", Place{2, "none", 0}, 0, 0}, {"../none", Place{1, "none", 0}, 0, 0}, {"/none", Place{1, "none", 0}, 0, 0}, {"/x/none", Place{5, "none", 0}, 0, 0}, {"e/none", Place{3, "none", 0}, 0, 0},
		{"/x/rel/none", Place{3, "none", 0}, 0, 0}, {"d", Place{2, "d", 0}, 0, 0}, {"x", Place{2, "x", 0}, 0, 0}, {strings.Repeat("/", 187) + "abcdefghijklm", Place{1, "abcdefghijklm", 0}, 0, 0}, {"\xff\x80", Place{2, "\xff\x80", 0}, 0, 0},
	} {
		w.retarget(t, 7, c.target)
		for _, path := range []string{"/d/l", "/d/l/", "/./d//l//", "/d/e/../l", "/abs/../l", "/x/rel/../l"} {
			answers(t, w.f, path, false, Place{2, "l", 7}, api.OK)
			answers(t, w.f, path, true, c.last, api.OK)
		}
		switch {
		case c.at > 0:
			w.leads(t, "/d/l/.", c.at, "", c.at)
			w.leads(t, "/d/l/./", c.at, "", c.at)
			w.leads(t, "/d/l/..", c.parent, "", c.parent)
			w.leads(t, "/d/l/new", c.at, "new", 0)
			w.leads(t, "/d/l/../new", c.parent, "new", 0)
			w.leads(t, "/d/l/../../new", w.p[c.parent].parent, "new", 0)
			w.fails(t, api.ErrNoEnt, "/d/l/new/a", "/d/l/new/.")
		case c.last.Ino > 0:
			w.fails(t, api.ErrNotDir, "/d/l/.", "/d/l/..", "/d/l/new", "/d/l/new/a")
		default:
			w.fails(t, api.ErrNoEnt, "/d/l/.", "/d/l/..", "/d/l/new", "/d/l/new/a")
		}
		w.does(t, "/d/l/f", "/d/l/h", "/d/l/h/..", "/d/l/e/f", "/d/l/../f", "/d/l/../x/f", "/d/l/d/l", "/d/l/up/l")
	}
}

// P17.2: what is wrong with a target: the errors of Parts but for the slash at its begin, and ErrNoEnt if it is empty.
func TestWrongTargets(t *testing.T) {
	w := worldOf(t, 64, folder(2, "/d"), link(3, "/d/l", "x"), link(4, "/to", "d/l"))
	refused := func(target string, e api.Errno) {
		t.Helper()
		w.retarget(t, 3, target)
		answers(t, w.f, "/d/l", true, Place{}, e)
		answers(t, w.f, "/to", true, Place{}, e)
		answers(t, w.f, "/d/l", false, Place{2, "l", 3}, api.OK)
		w.fails(t, e, "/d/l/.", "/d/l/..", "/d/l/x", "/d/l/x/y", "/to/x", "/./d/l/../l")
	}
	refused("", api.ErrNoEnt)
	for _, c := range wrongs() {
		// Of these a target may have those that only begin without a slash.
		if _, e := partsOf(c.path); len(c.path) <= api.MaxTarget && e != api.OK {
			refused(c.path, api.ErrName)
			refused(strings.TrimLeft(c.path, "/"), api.ErrName)
		}
	}
	// As long as a target can be: bytes and parts at the edge.
	for _, target := range []string{strings.Repeat("a", 200), strings.Repeat("/", 186) + "abcdefghijklmn", strings.Repeat("abcdefghi/", 20)[:199] + "\x00", strings.Repeat("a/", 100), strings.Repeat("/.", 100), strings.Repeat("../", 21), strings.Repeat("./", 20) + "a", "/" + strings.Repeat("./", 20) + "a"} {
		refused(target, api.ErrName)
	}
	for _, target := range []string{strings.Repeat("./", 20), strings.Repeat("/.", 20), strings.Repeat("/.", 20) + strings.Repeat("/", 160), "." + strings.Repeat("/", 199), strings.Repeat("./", 19) + "none", strings.Repeat("../", 19) + "d", strings.Repeat("/", 199) + "d", "/" + strings.Repeat("d/../", 9) + "d/."} {
		w.retarget(t, 3, target)
		w.does(t, "/d/l", "/d/l/", "/to", "/d/./l")
		if _, e := Walk(w.f, "/d/l", true); e != api.OK {
			t.Fatalf("%q: %v", target, e)
		}
	}
}

// chain returns n links, each to the next one, the last one to the target; they have the numbers from that one on.
func chain(from, n int, at, target string) []item {
	var list []item
	for k := 1; k < n; k++ {
		list = append(list, link(from+k-1, at+string(rune('0'+k)), at+string(rune('1'+k))))
	}
	return append(list, link(from+n-1, at+string(rune('0'+n)), target))
}

// P17.2: MaxFollow links are followed, and ErrLoop is returned at the next one: side by side, and one in the other's target.
func TestMaxFollow(t *testing.T) {
	w := worldOf(t, 128, slices.Concat(chain(10, 7, "/c", "/d"), []item{folder(2, "/d"), leaf(3, "/d/f"), link(4, "/s", "."), link(5, "/d/s", "."), link(6, "/two", "s/s"), link(7, "/d/back", "../s/d"), link(8, "/three", "s/s/c7"), link(9, "/d/s4", "s/s/s/s")})...)
	for k := 1; k <= 7; k++ {
		path, name := "/c"+string(rune('0'+k)), "c"+string(rune('0'+k))
		answers(t, w.f, path, false, Place{1, name, 9 + k}, api.OK)
		if k >= 4 {
			answers(t, w.f, path, true, Place{1, "d", 2}, api.OK)
			w.leads(t, path+"/f", 2, "f", 3)
			w.leads(t, path+"/.", 2, "", 2)
		} else {
			answers(t, w.f, path, true, Place{}, api.ErrLoop)
			w.fails(t, api.ErrLoop, path+"/f", path+"/.", path+"/..")
		}
	}
	for n := 1; n <= 20; n++ {
		path := strings.Repeat("/s", n)
		switch {
		case n <= 4:
			answers(t, w.f, path, true, Place{1, "", 1}, api.OK)
			w.leads(t, path+"/d/f", 2, "f", 3)
			w.leads(t, path+"/none", 1, "none", 0)
		case n == 5:
			answers(t, w.f, path, true, Place{}, api.ErrLoop)
			// The last one is not followed: no more than four are.
			answers(t, w.f, path, false, Place{1, "s", 4}, api.OK)
			w.fails(t, api.ErrLoop, path+"/d", path+"/.", path+"/none")
		default:
			w.fails(t, api.ErrLoop, path)
		}
	}
	w.leads(t, "/s/two/.", 1, "", 1)
	w.leads(t, "/two/s/.", 1, "", 1)
	w.fails(t, api.ErrLoop, "/two/two/.", "/s/two/s/.", "/two/s/s/.", "/s/s/two/.")
	w.leads(t, "/s/d/s/back/f", 2, "f", 3)
	w.leads(t, "/three/f", 2, "f", 3)
	w.fails(t, api.ErrLoop, "/s/three/f", "/three/s/f", "/d/back/back/s/f", "/d/s4/f", "/three/./s/..")
	answers(t, w.f, "/three/s", false, Place{2, "s", 5}, api.OK)
	answers(t, w.f, "/three/s", true, Place{}, api.ErrLoop)
	answers(t, w.f, "/d/s4", true, Place{}, api.ErrLoop)
	// What fails ahead of the link after MaxFollow is told first, and what stands behind it is not asked.
	w.fails(t, api.ErrNoEnt, "/s/s/s/s/none/s", "/none/s/s/s/s/s")
	w.fails(t, api.ErrNotDir, "/s/s/s/s/d/f/s")
	w.fails(t, api.ErrLoop, "/s/s/s/s/s/none/x", "/s/s/s/s/s/d/f/x")
}

// P17.2: a link to itself, in each way, and links to each other.
func TestLoops(t *testing.T) {
	w := worldOf(t, 64, folder(2, "/d"), link(3, "/o", "o"), link(4, "/d/o", "/d/o"), link(5, "/p", "d/q"), link(6, "/d/q", "../p"), link(7, "/in", "in/x"), link(8, "/dot", "./dot/."), link(9, "/d/up", "../d/up/.."))
	for _, path := range []string{"/o", "/d/o", "/p", "/d/q", "/in", "/dot", "/d/up"} {
		answers(t, w.f, path, true, Place{}, api.ErrLoop)
		want, _ := w.p.walk(path, false)
		answers(t, w.f, path, false, want, api.OK)
		w.fails(t, api.ErrLoop, path+"/x", path+"/.", path+"/..", path+"/../d", path+path)
	}
	w.leads(t, "/d/../d", 1, "d", 2)
}

// P17.2: as many parts may remain behind an inserted target as a path may have, and one more is ErrName.
func TestRemaining(t *testing.T) {
	w := worldOf(t, 64, folder(2, "/d"), link(3, "/l", "d"), link(4, "/m", "l/."))
	dots := func(n int) string { return strings.Repeat("/.", n) }
	for n := 1; n <= 20; n++ {
		target := "d" + dots(n-1)
		for _, target := range []string{target, "/" + target, target + "//"} {
			w.retarget(t, 3, target)
			for rest := range 20 {
				path := "/l" + dots(rest)
				if rest == 0 {
					want := Place{2, "", 2}
					if n == 1 {
						want = Place{1, "d", 2}
					}
					answers(t, w.f, path, true, want, api.OK)
					answers(t, w.f, path, false, Place{1, "l", 3}, api.OK)
				} else if n+rest <= 20 {
					w.leads(t, path, 2, "", 2)
					w.leads(t, "/l"+dots(rest-1)+"/x/", 2, "x", 0)
				} else {
					w.fails(t, api.ErrName, path, path+"/")
				}
				// What stands ahead of the link remains no more.
				if rest < 19 && n+rest <= 20 && rest > 0 {
					w.leads(t, dots(19-rest)+path, 2, "", 2)
				}
			}
		}
	}
	// A target of slashes alone has no parts.
	w.retarget(t, 3, "///")
	w.leads(t, "/l"+dots(19), 1, "", 1)
	w.leads(t, "/l"+dots(18)+"/d", 1, "d", 2)
	// The second link has what the first one left.
	for n := 1; n <= 19; n++ {
		w.retarget(t, 3, "d"+dots(n-1))
		for rest := 1; rest < 19; rest++ {
			if n+1+rest > 20 {
				w.fails(t, api.ErrName, "/m"+dots(rest))
			} else {
				w.leads(t, "/m"+dots(rest), 2, "", 2)
			}
		}
	}
}

// P17.2: of several errors the one that the chapter names first, and those of an earlier part ahead of those of a later one.
func TestErrorOrder(t *testing.T) {
	w := worldOf(t, 128, slices.Concat(chain(10, 4, "/c", "l"), []item{folder(2, "/d"), leaf(3, "/f"), link(4, "/l", "d"), folder(5, "/d/e")})...)
	dots := strings.Repeat("/.", 18)
	w.fails(t, api.ErrNoEnt, "/none/../f/x", "/d/none/x", "/none/x"+dots)
	w.fails(t, api.ErrNotDir, "/f/../none/x", "/f/x/y", "/f/none/../l", "/l/../f/x/../none/x")
	// The fifth link is ErrLoop, whatever is wrong with its target: it is not asked.
	bad := []string{"d", "none", "none/x", "f/x", "", "abcdefghijklmn", "a\x00", strings.Repeat("./", 21), strings.Repeat("./", 20), "/", "l"}
	for _, target := range bad {
		w.retarget(t, 4, target)
		answers(t, w.f, "/c1", true, Place{}, api.ErrLoop)
		w.fails(t, api.ErrLoop, "/c1/x", "/c1"+dots, "/c1/..")
	}
	w.node(t, 4, func(x *inode.Inode) { x.Size, x.Direct[0] = 5, 700 })
	answers(t, w.f, "/c1", true, Place{}, api.ErrLoop)
	answers(t, w.f, "/c2", true, Place{}, api.ErrArg)
	w.fails(t, api.ErrLoop, "/c1/x", "/c1"+dots)
	w.fails(t, api.ErrArg, "/c2/x", "/c2"+dots)
	w.undo(t)
	// A target that is wrong, or leaves too many parts, is told ahead of where it leads.
	for _, c := range []struct {
		target string
		e      api.Errno
	}{
		{"none/x/abcdefghijklmn", api.ErrName}, {"f/x/a\x00", api.ErrName}, {"none" + strings.Repeat("/x", 20), api.ErrName}, {"none/x", api.ErrName}, {"f/x", api.ErrName}, {"l/x", api.ErrName}, {"", api.ErrNoEnt}, {"none", api.ErrNoEnt}, {"f", api.ErrNotDir}, {"l", api.ErrLoop},
		{"/none/x", api.ErrName}, {"/", api.OK}, {"/none", api.ErrNoEnt},
	} {
		w.retarget(t, 4, c.target)
		want := Place{}
		if c.e == api.OK {
			want = Place{1, "x", 0}
		}
		for _, follow := range []bool{false, true} {
			answers(t, w.f, "/l"+dots+"/x", follow, want, c.e)
		}
	}
}

// P17.2: each error of Parts, ahead of anything that is read: nothing is amiss with a store whose power is off, and what is amiss with blocks is not told.
func TestPathErrorsFirst(t *testing.T) {
	good, bare := worldOf(t, 64, folder(2, "/a"), leaf(3, "/a/b")), &table.FS{}
	damaged := worldOf(t, 64)
	for _, n := range []int{0, 43, 63} {
		damaged.spoil(t, n, filled(n))
	}
	over, dark := worldOf(t, 64), worldOf(t, 64)
	for _, w := range []*world{over, dark} {
		w.d.SetFuse(0)
		w.d.Flush()
	}
	over.f.Get(1)
	for _, c := range wrongs() {
		for _, f := range []*table.FS{good.f, damaged.f, over.f, dark.f, bare, {S: &store.Store{}}} {
			answers(t, f, c.path, false, Place{}, c.e)
			answers(t, f, c.path, true, Place{}, c.e)
		}
	}
	if !over.f.S.Over() || dark.f.S.Over() {
		t.Fatal("a block is read")
	}
}

// R1: a nil file system, whatever the path; one on a nil store, and one on a store without a disk, as soon as something is read.
func TestNil(t *testing.T) {
	good := []string{"/a", "/.", "/..", "/a/b", "//a/", "/../a", strings.Repeat("/a", 20), "/abcdefghijklm", "/\xff"}
	var none *table.FS
	for _, f := range []*table.FS{none, table.New(nil)} {
		for _, path := range append(good, "/", "///", "", "a", "/a\x00", "/abcdefghijklmn", strings.Repeat("/", 201)) {
			answers(t, f, path, false, Place{}, api.ErrArg)
			answers(t, f, path, true, Place{}, api.ErrArg)
		}
	}
	for _, f := range []*table.FS{{}, {S: &store.Store{}}, table.New(&store.Store{})} {
		for _, path := range good {
			answers(t, f, path, false, Place{}, api.ErrArg)
			answers(t, f, path, true, Place{}, api.ErrArg)
		}
		answers(t, f, "/", true, Place{1, "", 1}, api.OK)
	}
}

// P17.2: block 0 or the root's block is not what it should be: ErrClean as soon as there is a part. What has no parts reads nothing.
func TestNoRoot(t *testing.T) {
	w := worldOf(t, 64, folder(2, "/a"), leaf(3, "/a/b"))
	for _, n := range []int{0, 43} {
		for _, b := range [][]byte{filled(1), make([]byte, 256)} {
			w.spoil(t, n, b)
			// Zeros in the table are free inodes.
			want := api.ErrClean
			if n == 43 && b[0] == 0 {
				want = api.ErrNotDir
			}
			w.fails(t, want, "/a", "/.", "/..", "/a/b", "/none", "/none/x", "/../..", "/a/")
			w.leads(t, "/", 1, "", 1)
			w.leads(t, "///", 1, "", 1)
			w.undo(t)
		}
	}
	for _, kind := range []int{api.File, api.Link, api.Free} {
		w.node(t, 1, func(x *inode.Inode) {
			if x.Kind = kind; kind == api.Free {
				*x = inode.Inode{}
			}
		})
		w.fails(t, api.ErrNotDir, "/a", "/.", "/..", "/a/b", "/none", "/none/x", "/../..", "/a/")
		w.leads(t, "/", 1, "", 1)
		w.undo(t)
	}
	w.leads(t, "/a/b", 2, "b", 3)
}

// apart returns directories one below the other, each in a block of the table of its own, with a file and a link at the end, and links beside them.
func apart(t *testing.T) *world {
	t.Helper()
	return worldOf(t, 128, folder(2, "/x"), leaf(3, "/x/f"), folder(9, "/a"), folder(17, "/a/b"), folder(25, "/a/b/c"), leaf(33, "/a/b/c/f"), link(41, "/a/b/c/l", "/x"), link(4, "/toC", "a/b/c"), link(34, "/a/toX", "../x"), leaf(26, "/a/b/c/g"))
}

// P17.2: a damaged block of the table: ErrClean where an inode in it is to be gone on from, or could be a link to follow; nowhere else.
func TestDamagedInodes(t *testing.T) {
	w := apart(t)
	nodes, _ := w.f.S.Get(43)
	for _, b := range [][]byte{filled(3), append(slices.Clone(nodes[:32]), slices.Repeat([]byte{9}, 224)...), slices.Repeat([]byte{0xff}, 256)} {
		w.spoil(t, 44, b)
		answers(t, w.f, "/a", false, Place{1, "a", 9}, api.OK)
		answers(t, w.f, "/a/", false, Place{1, "a", 9}, api.OK)
		answers(t, w.f, "/a", true, Place{}, api.ErrClean)
		w.fails(t, api.ErrClean, "/a/.", "/a/..", "/a/b", "/a/none", "/a/none/x", "/a/b/c/f", "/toC/f", "/toC/.", "/x/../a/b")
		w.does(t, "/x", "/x/f", "/x/f/", "/x/..", "/none", "/x/none", "/..")
		w.undo(t)
		w.spoil(t, 45, b)
		answers(t, w.f, "/a/b", false, Place{9, "b", 17}, api.OK)
		answers(t, w.f, "/a/b", true, Place{}, api.ErrClean)
		w.fails(t, api.ErrClean, "/a/b/.", "/a/b/..", "/a/b/c", "/a/b/c/f", "/toC/..")
		w.does(t, "/a", "/a/.", "/a/..", "/a/toX/f", "/a/toX", "/a/none", "/x/f")
		w.undo(t)
		w.spoil(t, 47, b)
		for _, path := range []string{"/a/b/c/f", "/toC/f/", "/a/toX"} {
			want, _ := w.p.walk(path, false)
			answers(t, w.f, path, false, want, api.OK)
			answers(t, w.f, path, true, Place{}, api.ErrClean)
		}
		w.fails(t, api.ErrClean, "/a/b/c/f/.", "/a/b/c/f/x", "/a/toX/f", "/a/toX/.", "/toC/../../toX/none")
		w.does(t, "/a/b/c/g", "/a/b/c/l", "/toC/l/f", "/toC/none", "/a/b/c/..")
		w.undo(t)
	}
	w.does(t, "/a/b/c/l/f", "/toC/f", "/a/toX/f")
}

// lookups holds paths by the directories of apart in which they look names up last; what leads there is clean.
var lookups = [][]string{{"/a", "/none", "/toC", "/x/f", "/none/x", "/./a", "/toC/f"}, {"/a/b", "/a/none", "/a/toX", "/a/none/x", "/a/b/c/f", "/./a/./b", "/x/../a/b", "/toC/f", "/a/toX/f"}, {"/a/b/c", "/a/b/none", "/a/b/none/x", "/a/b/c/f", "/toC/f", "/toC/..", "/a/b/c/..", "/a/../a/b/c"}, {"/a/b/c/f", "/a/b/c/none", "/a/b/c/none/x", "/toC/f", "/toC/none", "/toC/l/f", "/a/b/c/./l"}}

// P17.2: a directory whose bytes are not entries, or cannot be read: the errors of layers 15 and 16 where a name is looked up in it, the first, the last or one between; . and .. are not looked up.
func TestDamagedDirectories(t *testing.T) {
	w := apart(t)
	chain := []int{1, 9, 17, 25}
	for k, ino := range chain {
		at := w.block(t, ino, 0)
		entries, _ := w.f.S.Get(at)
		for _, c := range []struct {
			e      api.Errno
			damage func()
		}{
			{api.ErrClean, func() { w.spoil(t, at, filled(at)) }},
			{api.ErrClean, func() { w.spoil(t, at, make([]byte, 256)) }},
			{api.ErrClean, func() { w.spoil(t, at, append([]byte{48, 0}, entries[2:]...)) }},
			{api.ErrClean, func() { w.spoil(t, at, append([]byte{0xff, 0xff}, entries[2:]...)) }},
			{api.ErrClean, func() { w.spoil(t, at, append([]byte{0, 0}, entries[2:]...)) }},
			{api.ErrClean, func() { w.spoil(t, at, append([]byte{entries[0], 0, 14}, entries[3:]...)) }},
			{api.ErrClean, func() { w.node(t, ino, func(x *inode.Inode) { x.Size-- }) }},
			{api.ErrClean, func() { w.node(t, ino, func(x *inode.Inode) { x.Size++ }) }},
			{api.ErrClean, func() { w.node(t, ino, func(x *inode.Inode) { x.Size += 16 }) }},
			{api.ErrClean, func() { w.node(t, ino, func(x *inode.Inode) { x.Direct[0] = 0 }) }},
			{api.ErrArg, func() { w.node(t, ino, func(x *inode.Inode) { x.Direct[0] = 128 }) }},
			{api.ErrArg, func() { w.node(t, ino, func(x *inode.Inode) { x.Size, x.Map = 2576, 700 }) }},
		} {
			c.damage()
			w.fails(t, c.e, lookups[k]...)
			if k > 0 {
				way := []string{"/a", "/a/b", "/a/b/c"}[k-1]
				w.does(t, way, way+"/", way+"/.", way+"/..", way+"/./..", "/x/f", "/none", "/x/..", "/..")
			} else {
				w.leads(t, "/.", 1, "", 1)
				w.leads(t, "/../..", 1, "", 1)
			}
			w.leads(t, "/", 1, "", 1)
			w.undo(t)
		}
		w.does(t, slices.Concat(lookups...)...)
	}
}

// P17.2: a directory with a map, which is damaged: ErrClean from what is looked up in it.
func TestDamagedMap(t *testing.T) {
	w := worldOf(t, 128, folder(2, "/d"), folder(3, "/d/e"), leaf(4, "/d/f"))
	for k := range 170 {
		does(t, "Add", dir.Add(w.f, 2, dirent.Entry{Ino: 4, Name: "n" + string([]byte{'a' + byte(k/26), 'a' + byte(k%26)})}), api.OK)
		if k%20 == 0 {
			w.sync(t)
		}
	}
	w.sync(t)
	w.leads(t, "/d/ngn", 2, "ngn", 4)
	w.leads(t, "/d/ngo", 2, "ngo", 0)
	node, _ := w.f.Get(2)
	for _, b := range [][]byte{filled(1), slices.Repeat([]byte{0, 3}, 128), make([]byte, 256)} {
		w.spoil(t, node.Map, b)
		w.fails(t, api.ErrClean, "/d/e", "/d/f", "/d/ngn", "/d/none", "/d/e/..", "/d/none/x")
		w.leads(t, "/d", 1, "d", 2)
		w.leads(t, "/d/.", 2, "", 2)
		w.leads(t, "/d/..", 1, "", 1)
		w.undo(t)
	}
	// A file with a damaged map is no directory.
	w.node(t, 4, func(x *inode.Inode) { x.Size, x.Map = 3000, 700 })
	w.fails(t, api.ErrNotDir, "/d/f/x", "/d/f/.", "/d/ngn/..")
	w.leads(t, "/d/f", 2, "f", 4)
}

// P17.2: an entry whose inode is free: it is the last part's inode, and no directory to go on from; one beyond the table is no entry.
func TestStrayEntries(t *testing.T) {
	w := worldOf(t, 64, folder(2, "/d"), folder(3, "/d/e"), leaf(4, "/d/e/f"), link(5, "/l", "d/e/f"), link(6, "/m", "d/e"))
	for _, ino := range []int{3, 4} {
		w.node(t, ino, func(x *inode.Inode) { *x = inode.Inode{} })
	}
	w.leads(t, "/d/e", 2, "e", 3)
	w.leads(t, "/d/e/", 2, "e", 3)
	answers(t, w.f, "/m", true, Place{2, "e", 3}, api.OK)
	w.fails(t, api.ErrNotDir, "/d/e/.", "/d/e/..", "/d/e/f", "/d/e/none", "/d/e/none/x", "/m/f", "/m/.", "/l/x")
	answers(t, w.f, "/l", true, Place{}, api.ErrNotDir)
	w.leads(t, "/d/none", 2, "none", 0)
	w.undo(t)
	w.node(t, 4, func(x *inode.Inode) { *x = inode.Inode{} })
	w.leads(t, "/d/e/f", 3, "f", 4)
	answers(t, w.f, "/l", true, Place{3, "f", 4}, api.OK)
	w.fails(t, api.ErrNotDir, "/d/e/f/x", "/d/e/f/.", "/l/..")
	w.undo(t)
	// The root is its own parent, also where an entry below it names it.
	does(t, "Add", dir.Add(w.f, 3, dirent.Entry{Ino: 1, Name: "top"}), api.OK)
	w.leads(t, "/d/e/top", 3, "top", 1)
	w.leads(t, "/d/e/top/.", 1, "", 1)
	w.leads(t, "/d/e/top/..", 1, "", 1)
	w.leads(t, "/d/e/top/../d/..", 1, "", 1)
	w.leads(t, "/d/e/top/d/e/..", 2, "", 2)
	w.leads(t, "/m/top/../none", 1, "none", 0)
	w.undo(t)
	// Numbers that an entry of the root can have are inodes; no other number is an entry's.
	for _, ino := range []int{1, 8, 46, 47, 48, 49, 255, 256 + 2, 0xfffe, 0xffff} {
		at := w.block(t, 1, 0)
		b, _ := w.f.S.Get(at)
		b[0], b[1] = byte(ino), byte(ino>>8)
		w.spoil(t, at, b)
		switch {
		case ino == 1:
			w.leads(t, "/d", 1, "d", 1)
			w.leads(t, "/d/..", 1, "", 1)
			answers(t, w.f, "/d/d/m", false, Place{1, "m", 6}, api.OK)
			answers(t, w.f, "/d/d/m", true, Place{1, "e", 0}, api.OK)
			w.undo(t)
			continue
		case ino < 48:
			w.leads(t, "/d", 1, "d", ino)
			w.fails(t, api.ErrNotDir, "/d/e", "/d/.", "/m/x")
		default:
			w.fails(t, api.ErrClean, "/d", "/d/e", "/none", "/l", "/m/x")
		}
		w.undo(t)
	}
}

// P17.2: a target that was cut, that is in a hole, or that cannot be read.
func TestDamagedTargets(t *testing.T) {
	w := worldOf(t, 64, folder(2, "/d"), leaf(3, "/d/e"), folder(4, "/d/ef"), leaf(5, "/d/ef/g"), link(6, "/l", "d/ef/g"), link(7, "/d/up", "../l"))
	for n, want := range []Place{1: {1, "d", 2}, 2: {1, "d", 2}, 3: {2, "e", 3}, 4: {2, "ef", 4}, 5: {2, "ef", 4}, 6: {4, "g", 5}} {
		does(t, "Resize", file.Resize(w.f, 6, n), api.OK)
		e := api.OK
		if n == 0 {
			e = api.ErrNoEnt
			w.fails(t, e, "/l/x", "/l/.", "/d/up/x")
		}
		answers(t, w.f, "/l", true, want, e)
		answers(t, w.f, "/d/up", true, want, e)
		answers(t, w.f, "/l", false, Place{1, "l", 6}, api.OK)
		w.undo(t)
	}
	// Holes are zero bytes, and so is what a target was made longer by.
	for _, damage := range []func(){
		func() { does(t, "Resize", file.Resize(w.f, 6, 7), api.OK) },
		func() { does(t, "Resize", file.Resize(w.f, 6, 200), api.OK) },
		func() { w.node(t, 6, func(x *inode.Inode) { x.Direct[0] = 0 }) },
		func() { w.node(t, 6, func(x *inode.Inode) { x.Direct[0], x.Size = 0, 1 }) },
		func() { w.node(t, 6, func(x *inode.Inode) { x.Direct[0], x.Size = 0, 200 }) },
		func() { w.spoil(t, w.block(t, 6, 0), make([]byte, 256)) },
	} {
		damage()
		answers(t, w.f, "/l", true, Place{}, api.ErrName)
		answers(t, w.f, "/d/up", true, Place{}, api.ErrName)
		answers(t, w.f, "/l", false, Place{1, "l", 6}, api.OK)
		w.fails(t, api.ErrName, "/l/x", "/l/.", "/d/up/..", "/l/../d")
		w.undo(t)
	}
	// Beyond the disk: the error of the store. A target of no bytes has no block to be read.
	for _, n := range []int{64, 100, 767} {
		w.node(t, 6, func(x *inode.Inode) { x.Direct[0] = n })
		answers(t, w.f, "/l", true, Place{}, api.ErrArg)
		answers(t, w.f, "/l", false, Place{1, "l", 6}, api.OK)
		w.fails(t, api.ErrArg, "/l/x", "/l/.", "/d/up/x")
		w.node(t, 6, func(x *inode.Inode) { x.Size = 0 })
		answers(t, w.f, "/l", true, Place{}, api.ErrNoEnt)
		w.undo(t)
	}
	// Longer than a target can be: no inode's bytes.
	b, _ := w.f.S.Get(43)
	for _, size := range []int{201, 255, 256 + 6, 65535} {
		long := slices.Clone(b)
		long[6*32+2], long[6*32+3] = byte(size), byte(size>>8)
		w.spoil(t, 43, long)
		w.fails(t, api.ErrClean, "/l", "/l/x", "/d")
		w.undo(t)
	}
	w.does(t, "/l", "/d/up", "/l/x")
}

// everything holds the paths of a tree's items, and others about them.
func everything(items []item) []string {
	list := []string{"/", "/.", "/..", "/none", "/none/x", "", "x", "/abcdefghijklmn"}
	for _, x := range items {
		list = append(list, x.at, x.at+"/", x.at+"/.", x.at+"/..", x.at+"/none", x.at+"/none/x", x.at+"/../none", "/."+x.at)
	}
	return list
}

// mixed holds a tree of all kinds.
var mixed = []item{folder(2, "/d"), folder(3, "/d/e"), leaf(4, "/d/e/f"), link(5, "/l", "d/e"), link(6, "/d/e/m", "../../d"), link(7, "/o", "o"), link(8, "/d/r", "/"), link(9, "/d/g", "none"), leaf(10, "/x"), link(11, "/empty", ""), link(12, "/bad", "a\x00")}

// P17.2: every path of up to four parts of a tree of all kinds, beside the plain tree.
func TestAllShortPaths(t *testing.T) {
	t.Parallel()
	w := worldOf(t, 64, mixed...)
	names := []string{".", "..", "d", "e", "f", "l", "m", "o", "r", "g", "x", "empty", "bad", "none"}
	paths := []string{""}
	for depth := range 4 {
		var more []string
		for _, path := range paths {
			for _, name := range names {
				more = append(more, path+"/"+name)
			}
		}
		w.does(t, more...)
		if depth == 2 {
			more = slices.DeleteFunc(more, func(path string) bool { _, e := w.p.walk(path+"/.", false); return e != api.OK })
		}
		paths = more
	}
}

// P17.2: outside of a call and within one, with all changes made in calls before or in this one, the answers are the same, and nothing is changed.
func TestChangesNothing(t *testing.T) {
	w := worldOf(t, 64, mixed...)
	paths := everything(mixed)
	was := picture(w.f)
	w.does(t, paths...)
	w.unchanged(t, was)
	w.end(t, true)
	if w.f.S.Dirty() != 0 {
		t.Fatal("Walk changes something")
	}
	w.does(t, paths...)
	if w.f.S.Dirty() != 0 || w.f.S.Within() || w.d.Unflushed() != 0 {
		t.Fatal("Walk changes something")
	}
	w.unchanged(t, was)
	w.begin(t)
	// A call that has no room left: Walk needs none.
	for n := 3; n < 40; n++ {
		w.spoil(t, n, filled(n))
	}
	does(t, "Put", w.f.S.Put(40, filled(40)), api.ErrNoSpace)
	was = picture(w.f)
	w.does(t, paths...)
	w.unchanged(t, was)
	w.undo(t)
	// Nothing of the call that was undone is remembered.
	w.does(t, paths...)
}

// P17.2: what the present call changes is seen, and no longer if it is undone: nothing is remembered from one Walk to the next.
func TestSeesChanges(t *testing.T) {
	w := worldOf(t, 64, folder(2, "/d"), folder(3, "/d/e"), leaf(4, "/d/e/f"), folder(5, "/x"), link(6, "/l", "d/e"))
	w.leads(t, "/d/e/f", 3, "f", 4)
	w.leads(t, "/d/e/..", 2, "", 2)
	w.leads(t, "/l/..", 2, "", 2)
	// The directory e moves from d to x.
	does(t, "Remove", dir.Remove(w.f, 2, "e"), api.OK)
	does(t, "Add", dir.Add(w.f, 5, dirent.Entry{Ino: 3, Name: "e"}), api.OK)
	w.fails(t, api.ErrNoEnt, "/d/e/f", "/d/e/..", "/l/..")
	w.leads(t, "/d/e", 2, "e", 0)
	w.leads(t, "/x/e/f", 3, "f", 4)
	w.leads(t, "/x/e/..", 5, "", 5)
	w.retarget(t, 6, "x/e")
	w.leads(t, "/l/..", 5, "", 5)
	// Another inode has the name.
	does(t, "Add", dir.Add(w.f, 2, dirent.Entry{Ino: 5, Name: "e"}), api.OK)
	w.leads(t, "/d/e/f", 5, "f", 0)
	does(t, "Set", dir.Set(w.f, 2, dirent.Entry{Ino: 4, Name: "e"}), api.OK)
	w.fails(t, api.ErrNotDir, "/d/e/f")
	w.undo(t)
	w.leads(t, "/d/e/f", 3, "f", 4)
	w.leads(t, "/d/e/..", 2, "", 2)
	w.fails(t, api.ErrNoEnt, "/x/e/f")
}

// P17.2: a store that is over returns ErrIO as soon as something is read, outside of a call and within one.
func TestOver(t *testing.T) {
	for _, within := range []bool{false, true} {
		w := worldOf(t, 64, mixed...)
		w.grow(t, leaf(20, "/new"))
		if w.d.SetFuse(0); within {
			w.d.Flush()
		} else {
			w.end(t, true)
			does(t, "Sync", w.f.S.Sync(), api.ErrIO)
		}
		for range 2 {
			w.fails(t, api.ErrIO, "/d", "/.", "/..", "/d/e/f", "/none", "/none/x", "/l/m", "/o", "/new", "/x/y")
			if !w.f.S.Over() {
				t.Fatal("not over")
			}
			w.leads(t, "/", 1, "", 1)
			w.fails(t, api.ErrInval, "", "x")
			w.fails(t, api.ErrName, "/a\x00")
		}
	}
}

// P17.2: without power each block that is to be read is ErrIO, and the store is over: the inodes and the bytes of each directory and of each link that is followed; nothing else is read.
func TestNoPower(t *testing.T) {
	at := func(w *world, inos ...int) []int {
		list := []int{0, 43}
		for _, ino := range inos {
			list = append(list, 43+ino/8, w.block(t, ino, 0))
		}
		return list
	}
	for _, c := range []struct {
		path   string
		follow bool
		inos   []int // those whose bytes are read
		more   []int // blocks of the table for what is only asked to be a link
	}{
		{"/.", true, nil, nil}, {"/../..", true, nil, nil}, {"/none", true, []int{1}, nil}, {"/a", false, []int{1}, nil}, {"/a", true, []int{1}, []int{44}}, {"/a/.", false, []int{1}, []int{44}}, {"/a/b", false, []int{1, 9}, nil}, {"/a/b", true, []int{1, 9}, []int{45}},
		{"/a/b/c/f", false, []int{1, 9, 17, 25}, nil}, {"/a/b/c/f", true, []int{1, 9, 17, 25}, []int{47}}, {"/a/b/..", true, []int{1, 9}, []int{45}}, {"/a/toX", false, []int{1, 9}, nil}, {"/a/toX", true, []int{1, 9, 34}, nil}, {"/a/toX/f", false, []int{1, 9, 34, 2}, nil},
		{"/toC", false, []int{1}, nil}, {"/toC", true, []int{1, 4, 9, 17}, []int{46}}, {"/toC/l", true, []int{1, 4, 9, 17, 25, 41}, nil}, {"/toC/l", false, []int{1, 4, 9, 17, 25}, nil}, {"/a/none/x", true, []int{1, 9}, nil}, {"/x/f/y", true, []int{1, 2}, nil},
	} {
		reads := append(at(apart(t), c.inos...), c.more...)
		for _, lost := range append(reads, -1) {
			w := apart(t)
			want, e := w.p.walk(c.path, c.follow)
			// What the call has put is not read from the disk.
			for n := range reads {
				b, _ := w.f.S.Get(reads[n])
				if reads[n] != lost {
					w.spoil(t, reads[n], b)
				}
			}
			w.d.SetFuse(0)
			w.d.Flush()
			if lost < 0 {
				answers(t, w.f, c.path, c.follow, want, e)
				continue
			}
			answers(t, w.f, c.path, c.follow, Place{}, api.ErrIO)
			if !w.f.S.Over() {
				t.Fatalf("%q without block %d: not over", c.path, lost)
			}
			w.fails(t, api.ErrIO, "/a", "/.")
		}
	}
}

// P17.2: a directory that was traversed is the same one when the path comes to it again, by the same name, by a link, or from the root.
func TestAgain(t *testing.T) {
	w := worldOf(t, 64, folder(2, "/d"), folder(3, "/d/e"), leaf(4, "/d/e/f"), folder(5, "/e"), leaf(6, "/e/g"), link(7, "/d/abs", "/d/e"), link(8, "/e/back", "../d"), folder(9, "/d/e/d"), link(10, "/d/e/e", "/e"))
	for _, c := range []struct {
		path string
		dir  int
		name string
		ino  int
	}{
		{"/d/e/../e/../e/f", 3, "f", 4}, {"/d/../d/../d/e", 2, "e", 3}, {"/d/../e/../d/e/f", 3, "f", 4}, {"/e/../d/e/..", 2, "", 2}, {"/d/e/../../e/..", 1, "", 1}, {"/d/e/d/..", 3, "", 3}, {"/d/e/d/../../../d/..", 1, "", 1}, {"/d/../d/e/d", 3, "d", 9}, {"/d/e/d/../d/..", 3, "", 3},
		{"/d/abs/../e/f", 3, "f", 4}, {"/d/e/../abs/..", 2, "", 2}, {"/d/abs/../abs/../abs/d", 3, "d", 9}, {"/e/back/e/..", 2, "", 2}, {"/e/back/..", 1, "", 1}, {"/e/back/../e/g", 5, "g", 6}, {"/d/e/e/g", 5, "g", 6}, {"/d/e/e/..", 1, "", 1}, {"/d/e/e/back/e/e/../d/e", 2, "e", 3},
		{"/d/e/../d", 2, "d", 0}, {"/d/e/../../d", 1, "d", 2}, {"/d/e/../../e", 1, "e", 5}, {"/e/../d/../e/..", 1, "", 1},
	} {
		w.leads(t, c.path, c.dir, c.name, c.ino)
	}
	// A link that was followed is followed again, and counts again; a name that leads to one is no directory.
	answers(t, w.f, "/d/abs/../abs", false, Place{2, "abs", 7}, api.OK)
	answers(t, w.f, "/d/abs/../abs", true, Place{2, "e", 3}, api.OK)
	w.leads(t, strings.Repeat("/e/back/..", 4), 1, "", 1)
	w.fails(t, api.ErrLoop, strings.Repeat("/e/back/..", 5))
}

// draw draws a tree of all kinds: most directories, links and files lie in others.
func (l *lots) draw() []item {
	dirs := []string{""}
	var items []item
	used := map[string]int{}
	for ino := 2; ino < 12+l.below(36); ino++ {
		at := pick(l, dirs) + "/" + pick(l, drawn)
		if used[at]++; used[at] > 1 {
			continue
		}
		switch l.below(6) {
		case 0:
			items = append(items, leaf(ino, at))
		case 1, 2:
			items = append(items, folder(ino, at))
			dirs = append(dirs, at)
		default:
			items = append(items, link(ino, at, ""))
		}
	}
	for k := range items {
		if items[k].kind == api.Link {
			items[k].target = l.target(items)
		}
	}
	return items
}

// drawn holds names of random trees.
var drawn = []string{"a", "b", "c", "d", "\xff", "abcdefghijklm"}

// target draws a link's target: most lead somewhere.
func (l *lots) target(items []item) string {
	switch k := l.below(30); {
	case k == 0:
		return ""
	case k == 1:
		return pick(l, []string{"a\x00", "abcdefghijklmn", strings.Repeat("./", 21), strings.Repeat("/.", 20), "/", "..", "."})
	case k < 12:
		return pick(l, items).at
	}
	return l.path(items)[1:]
}

// path draws a path over these items: a way to one of them, or along names, dots and slashes.
func (l *lots) path(items []item) string {
	path := ""
	if l.below(2) == 0 {
		path = pick(l, items).at
	}
	for range l.below(6) {
		path += pick(l, []string{"/", "/", "/", "//"}) + pick(l, append([]string{".", "..", "..", "none"}, drawn...))
	}
	if l.below(25) == 0 {
		path += strings.Repeat(pick(l, []string{"/.", "/..", "/a"}), l.below(20))
	}
	if l.below(8) == 0 || path == "" {
		path += "/"
	}
	return path[:min(len(path), api.MaxTarget)]
}

// P17.2: random trees and random paths beside the plain tree, with links that change.
func TestRandom(t *testing.T) {
	t.Parallel()
	met, deep := map[api.Errno]int{}, 0
	for seed := range 60 {
		l := lots(seed)
		items := l.draw()
		w := worldOf(t, 256, items...)
		was := picture(w.f)
		for range 700 {
			path := l.path(items)
			if l.below(40) == 0 {
				path = pick(&l, []string{"", "a", path + "\x00", path + "/abcdefghijklmn", path[1:], strings.Repeat("/", 201)})
			}
			w.does(t, path)
			p, e := w.p.walk(path, l.below(2) == 0)
			if met[e]++; e == api.OK && p.Dir > 1 {
				deep++
			}
		}
		w.unchanged(t, was)
		for _, x := range items {
			if x.kind == api.Link {
				w.retarget(t, x.ino, l.target(items))
				w.does(t, x.at, x.at+"/.", x.at+"/..", x.at+l.path(items))
			}
		}
	}
	for _, e := range []api.Errno{api.OK, api.ErrNoEnt, api.ErrNotDir, api.ErrInval, api.ErrName, api.ErrLoop} {
		if met[e] < 200 {
			t.Fatalf("%v is met %d times", e, met[e])
		}
	}
	if deep < 1000 {
		t.Fatalf("%d places are below the root", deep)
	}
}

// P17.2: a crash and a new store change no answer.
func TestBehindCrash(t *testing.T) {
	w := worldOf(t, 64, mixed...)
	w.end(t, true)
	w.d.Crash(nil)
	w.open(t)
	w.does(t, everything(mixed)...)
}

// R2: two file systems on two stores have nothing in common; two on one store are one.
func TestStoresApart(t *testing.T) {
	a := worldOf(t, 64, mixed...)
	b := worldOf(t, 64, folder(2, "/x"), leaf(3, "/x/d"), folder(4, "/d"), folder(5, "/d/f"), link(6, "/d/e", "/x"), leaf(7, "/l"))
	for _, path := range everything(mixed) {
		a.does(t, path)
		b.does(t, path)
		a.does(t, path)
	}
	a.grow(t, leaf(30, "/d/only"))
	a.leads(t, "/d/only", 2, "only", 30)
	b.leads(t, "/d/only", 4, "only", 0)
	answers(t, table.New(a.f.S), "/l/../only", true, Place{2, "only", 30}, api.OK)
	answers(t, &table.FS{S: b.f.S}, "/d/e", true, Place{1, "x", 2}, api.OK)
}

// R1: any text is taken.
func TestAnyText(t *testing.T) {
	w := worldOf(t, 64, mixed...)
	l := lots(7)
	for range 3000 {
		b := make([]byte, l.below(pick(&l, []int{4, 20, 250})))
		for k := range b {
			b[k] = byte(l.below(256))
			if l.below(3) == 0 {
				b[k] = pick(&l, []byte("//..delmorgx"))
			}
		}
		w.does(t, string(b), "/"+string(b))
	}
	for _, n := range []int{math.MaxUint8, math.MaxUint16, 1 << 24} {
		w.fails(t, api.ErrName, "/"+strings.Repeat("a", n), strings.Repeat("/.", n))
		w.fails(t, api.ErrInval, strings.Repeat("a", n))
	}
}
