package dirent

import (
	"bytes"
	"math"
	"slices"
	"strings"
	"testing"

	"ashlar/api"
)

// longest is a name of the greatest length.
const longest = "thirteenbytes"

// odd holds numbers that no inode has, also such that are right ones when cut to fewer bytes.
var odd = []int{
	math.MinInt, math.MinInt + 1, math.MinInt + 5, math.MinInt + 47, -1 << 32, -1<<32 + 1, -1<<32 + 47, -1 << 31, -1<<31 + 1, -1<<16 + 1, -1 << 16, -65535,
	1 << 16, 1<<16 + 1, 1<<16 + 5, 1<<16 + 47, 1<<17 + 2, 1<<24 + 3, 1<<31 - 1, 1 << 31, 1<<31 + 1,
	1 << 32, 1<<32 + 1, 1<<32 + 5, 1<<32 + 47, 1<<33 + 1, 1<<40 + 1, 1<<48 + 1, 1<<56 + 1, math.MaxInt - 206, math.MaxInt - 1, math.MaxInt,
}

// numbers returns those from far below 0 to far beyond the last inode, and the odd ones.
func numbers() []int {
	all := slices.Clone(odd)
	for n := -600; n <= 1400; n++ {
		all = append(all, n)
	}
	return all
}

// wrongNames holds strings that are no names, each for a reason of its own.
var wrongNames = []string{
	"", ".", "..", "/", "\x00", "a/", "/a", "a/b", "a\x00", "\x00a", "a\x00b", "\x00\x00", "//", "./", "/.", "../", "..\x00", ".\x00",
	"twelve bytes/", "/welve bytes.", "twelve bytes\x00", "\x00welve bytes.", "fourteen bytes", "a name that is far too long for a directory",
}

// rightNames holds names at the edges, also such that are no UTF-8.
var rightNames = []string{
	"a", "ab", "...", "....", ".a", "a.", "..a", "a..", ". ", " .", " ", "-", "\\", "\x01", "\x7f", "\x80", "\xff", "\xc3\xa9", "\xc3", "\xa9", "\xef\xbf\xbd",
	longest, ".............", "\xff\xff\xff\xff\xff\xff\xff\xff\xff\xff\xff\xff\xff", "\xe2\x82\xac\xe2\x82\xac\xe2\x82\xac\xe2\x82\xac.", "\xf0\x9f\x98\x80", "\xc0\xaf", "\xc0\x80",
}

// low writes n by division, the lowest byte first.
func low(n, size int) string {
	var b []byte
	for range size {
		b = append(b, byte(n%256))
		n /= 256
	}
	return string(b)
}

// modelName says the chapter's words, with the limits written out.
func modelName(s string) bool {
	right := len(s) != 0 && len(s) < 14 && s != "." && s != ".."
	for _, c := range []byte(s) {
		right = right && c != 0 && c != 47
	}
	return right
}

// raw writes an entry's 16 bytes with any number of two bytes, any length and any name that fits.
func raw(ino, length int, name string) string {
	s := low(ino, 2) + low(length, 1) + name
	return s + strings.Repeat("\x00", 16-len(s))
}

// block lays 16 bytes a piece from the start of a block of zeros.
func block(pieces ...string) []byte {
	b := make([]byte, 256)
	copy(b, strings.Join(pieces, ""))
	return b
}

// pieces writes each entry of a list, all of which fit into their bytes.
func pieces(list []Entry) []string {
	var all []string
	for _, e := range list {
		all = append(all, raw(e.Ino, len(e.Name), e.Name))
	}
	return all
}

// modelDecode goes back from a block's last byte that is not zero, and asks each entry before it for its form.
func modelDecode(b []byte) ([]Entry, bool) {
	used := bytes.TrimRight(b, "\x00")
	count := (len(used) + 15) / 16
	list := make([]Entry, count)
	for k := range list {
		p := b[16*k : 16*k+16]
		ino, length := int(p[0])+256*int(p[1]), int(p[2])
		if ino == 0 || ino > 47 || length > 13 || !modelName(string(p[3:3+length])) || len(bytes.Trim(p[3+length:], "\x00")) > 0 {
			return nil, false
		}
		list[k] = Entry{ino, string(p[3 : 3+length])}
	}
	return list, true
}

// some returns sixteen entries, whose numbers and names differ and lie at the limits, too.
func some() []Entry {
	return []Entry{
		{5, "ab"}, {47, longest}, {1, "a"}, {2, "..."}, {3, "\xff"}, {46, "\x80\x01"}, {9, ".a"}, {10, "A"},
		{11, "twelve bytes"}, {12, "\xc3\xa9"}, {13, " "}, {14, "0123456789"}, {15, "b"}, {16, "\xff\xff\xff\xff\xff\xff\xff\xff\xff\xff\xff\xff\xff"}, {17, "a.b"}, {4, "thirteenBytes"},
	}
}

// placed returns sixteen entries, e at place k among others.
func placed(k int, e Entry) []Entry {
	list := some()
	list[k] = e
	return list
}

// holds tests Encode and Decode there and back on a right list.
func holds(t *testing.T, list []Entry) {
	t.Helper()
	before := slices.Clone(list)
	want := block(pieces(list)...)
	if b, e := Encode(list); e != api.OK || !bytes.Equal(b, want) {
		t.Fatalf("Encode(%+v): %q, %v", list, b, e)
	}
	if got, e := Decode(want); e != api.OK || !slices.Equal(got, before) || !slices.Equal(list, before) {
		t.Fatalf("Decode: %+v, %v, not %+v", got, e, before)
	}
}

// refused holds that a list has no block.
func refused(t *testing.T, list []Entry) {
	t.Helper()
	if b, e := Encode(list); b != nil || e != api.ErrArg {
		t.Fatalf("Encode(%+v): %q, %v", list, b, e)
	}
}

// undecoded holds that b is no block of entries, and stays as it is.
func undecoded(t *testing.T, b []byte) {
	t.Helper()
	before := bytes.Clone(b)
	if list, e := Decode(b); list != nil || e != api.ErrForm || !bytes.Equal(b, before) {
		t.Fatalf("Decode(%q): %+v, %v", b, list, e)
	}
}

// decoded holds Decode against the model.
func decoded(t *testing.T, b []byte) {
	t.Helper()
	want, ok := modelDecode(b)
	if !ok {
		undecoded(t, b)
	} else if got, e := Decode(b); e != api.OK || !slices.Equal(got, want) {
		t.Fatalf("Decode(%q): %+v, %v, not %+v", b, got, e, want)
	}
}

// named holds that s is a name or not, as Name says it and as an entry's form says it.
func named(t *testing.T, s string, want bool) {
	t.Helper()
	if Name(s) != want || Formed(Entry{5, s}) != want {
		t.Fatalf("Name(%q): %v, Formed: %v", s, Name(s), Formed(Entry{5, s}))
	}
}

// P8.1, Name: names and others, written out.
func TestNameEdges(t *testing.T) {
	for _, s := range rightNames {
		named(t, s, true)
	}
	for _, s := range wrongNames {
		named(t, s, false)
	}
}

// P8.1, Name: each length from none to far beyond MaxName, of each of all bytes.
func TestNameLength(t *testing.T) {
	for c := range 256 {
		for n := range 300 {
			s := strings.Repeat(string([]byte{byte(c)}), n)
			right := n >= 1 && n <= 13 && c != 0 && c != '/' && (c != '.' || n > 2)
			named(t, s, right)
		}
	}
	for _, n := range []int{512, 513, 65536 + 5, 1<<20 + 1} {
		named(t, strings.Repeat("a", n), false)
	}
}

// P8.1, Name: each of all bytes at each place of names of each length; only 0 and / make no name.
func TestNameBytes(t *testing.T) {
	for length := 1; length <= 14; length++ {
		for _, base := range []string{"name of bytes.", "..............", "\xf0\x9f\x98\x80\xf0\x9f\x98\x80\xf0\x9f\x98\x80\xc3\xa9"} {
			for at := range length {
				for c := range 256 {
					b := []byte(base[:length])
					b[at] = byte(c)
					named(t, string(b), length <= 13 && c != 0 && c != '/' && string(b) != "." && string(b) != "..")
				}
			}
		}
	}
}

// P8.1, Name: all strings of two bytes.
func TestNamePairs(t *testing.T) {
	for c := range 256 {
		for d := range 256 {
			s := string([]byte{byte(c), byte(d)})
			named(t, s, c != 0 && d != 0 && c != '/' && d != '/' && s != "..")
		}
	}
}

// P8.1, Formed: the edges, written out.
func TestFormedEdges(t *testing.T) {
	for _, e := range []Entry{{1, "a"}, {47, "a"}, {1, longest}, {47, longest}, {24, "..."}, {5, "ab"}} {
		if !Formed(e) {
			t.Errorf("%+v is not well formed", e)
		}
	}
	for _, e := range []Entry{
		{}, {0, "a"}, {48, "a"}, {-1, "a"}, {49, "a"}, {256, "a"}, {257, "a"}, {303, "a"}, {-255, "a"}, {-47, "a"}, {65537, "a"}, {1<<32 + 1, "a"},
		{1, ""}, {47, ""}, {1, "."}, {1, ".."}, {1, "a/b"}, {1, "a\x00"}, {1, "fourteen bytes"}, {0, ""}, {48, ""}, {-1, ".."},
	} {
		if Formed(e) {
			t.Errorf("%+v is well formed", e)
		}
	}
}

// P8.1, Formed, Encode, Decode: each number about the edges and far beyond, with each right and each wrong name.
func TestFormed(t *testing.T) {
	for _, n := range numbers() {
		right := n >= 1 && n <= 47
		for _, s := range rightNames {
			e := Entry{n, s}
			if Formed(e) != right {
				t.Fatalf("Formed(%+v): %v", e, !right)
			}
			if right {
				holds(t, []Entry{e})
			} else {
				refused(t, []Entry{e})
			}
		}
		for _, s := range wrongNames {
			if Formed(Entry{n, s}) {
				t.Fatalf("(%d, %q) is well formed", n, s)
			}
			refused(t, []Entry{{n, s}})
		}
	}
}

// P8.1, Encode and Decode: all 16 bytes of an entry written out, at each place of a block, and alone.
func TestWrittenOut(t *testing.T) {
	for _, c := range []struct {
		e     Entry
		bytes string
	}{
		{Entry{5, "ab"}, "\x05\x00\x02\x61\x62\x00\x00\x00\x00\x00\x00\x00\x00\x00\x00\x00"},
		{Entry{47, "thirteenbytes"}, "\x2f\x00\x0dthirteenbytes"},
		{Entry{1, "a"}, "\x01\x00\x01a\x00\x00\x00\x00\x00\x00\x00\x00\x00\x00\x00\x00"},
		{Entry{10, "..."}, "\x0a\x00\x03...\x00\x00\x00\x00\x00\x00\x00\x00\x00\x00"},
		{Entry{32, "\xff\x80\x01"}, "\x20\x00\x03\xff\x80\x01\x00\x00\x00\x00\x00\x00\x00\x00\x00\x00"},
		{Entry{46, "twelve bytes"}, "\x2e\x00\x0ctwelve bytes\x00"},
	} {
		for k := range 16 {
			list := placed(k, c.e)
			holds(t, list)
			if b, e := Encode(list); e != api.OK || len(b) != 256 || string(b[16*k:16*k+16]) != c.bytes {
				t.Errorf("%+v at %d: %q, %v", c.e, k, b, e)
			}
		}
		want := c.bytes + strings.Repeat("\x00", 240)
		if b, e := Encode([]Entry{c.e}); e != api.OK || string(b) != want {
			t.Errorf("%+v alone: %q, %v", c.e, b, e)
		}
		if list, e := Decode([]byte(want)); e != api.OK || len(list) != 1 || list[0] != c.e {
			t.Errorf("%+v alone: %+v, %v", c.e, list, e)
		}
	}
}

// P8.1, Encode and Decode there and back: each number of entries, in all turns, and names of each length.
func TestThereAndBack(t *testing.T) {
	for turn := range 16 {
		all := slices.Concat(some()[turn:], some()[:turn])
		for n := range 17 {
			holds(t, all[:n])
		}
	}
	for length := 1; length <= 13; length++ {
		for k := range 16 {
			holds(t, placed(k, Entry{1 + length, longest[:length]}))
			holds(t, placed(k, Entry{47, strings.Repeat("\xff", length)}))
		}
	}
}

// P8.1, Encode and Decode: no entry, as a nil list and as an empty one, is a block of zeros, and that is no entry.
func TestNone(t *testing.T) {
	zeros := make([]byte, 256)
	for _, list := range [][]Entry{nil, {}, some()[:0]} {
		if b, e := Encode(list); e != api.OK || !bytes.Equal(b, zeros) {
			t.Errorf("no entry: %q, %v", b, e)
		}
	}
	if list, e := Decode(zeros); e != api.OK || len(list) != 0 {
		t.Errorf("zeros: %+v, %v", list, e)
	}
}

// P8.1, Encode and Decode: entries of the same name, and the same entry many times, are taken.
func TestSameName(t *testing.T) {
	holds(t, []Entry{{5, "ab"}, {6, "ab"}})
	holds(t, []Entry{{6, "ab"}, {5, "ab"}})
	holds(t, []Entry{{5, "ab"}, {5, "ab"}})
	holds(t, []Entry{{5, "ab"}, {5, "c"}})
	for _, e := range some() {
		for n := range 17 {
			holds(t, slices.Repeat([]Entry{e}, n))
		}
	}
}

// P8.1, Encode: each entry in turn not well formed, among others, in lists of each length.
func TestEncodeWrong(t *testing.T) {
	wrong := []Entry{{}}
	for _, n := range append([]int{0, -1, 48, 256, 257, 303}, odd...) {
		wrong = append(wrong, Entry{n, "a"})
	}
	for _, s := range wrongNames {
		wrong = append(wrong, Entry{5, s})
	}
	for _, e := range wrong {
		for k := range 16 {
			for n := k + 1; n <= 16; n++ {
				refused(t, placed(k, e)[:n])
			}
		}
	}
}

// P8.1, Encode: one entry too many, and many more, well formed or not.
func TestEncodeCount(t *testing.T) {
	many := slices.Repeat(some(), 20)
	for n := 17; n <= len(many); n++ {
		refused(t, many[:n])
		refused(t, make([]Entry, n))
	}
	refused(t, slices.Repeat([]Entry{{1, "a"}}, 65536+3))
	// The seventeenth is not asked for, though the spare room has it.
	holds(t, many[:16])
}

// P8.1, Decode: blocks of each wrong length, cut from right ones.
func TestDecodeLength(t *testing.T) {
	long := bytes.Repeat(block(pieces(some())...), 3)
	zeros := make([]byte, len(long))
	one := append(block(raw(5, 2, "ab")), zeros...)
	for _, b := range [][]byte{long, zeros, one} {
		for length := range len(b) {
			if length != 256 {
				undecoded(t, b[:length])
			}
		}
		decoded(t, b[:256])
	}
	undecoded(t, nil)
	undecoded(t, []byte{})
}

// P8.1, Decode: another byte than zero behind each name, behind the last entry and at the block's end, in each place.
func TestDecodeRest(t *testing.T) {
	for n := range 17 {
		list := some()[:n]
		b := block(pieces(list)...)
		for at := range b {
			k := at / 16
			if k < n && at%16 < 3+len(list[k].Name) {
				continue
			}
			for c := 1; c < 256; c++ {
				b[at] = byte(c)
				undecoded(t, b)
			}
			b[at] = 0
		}
		if got, e := Decode(b); e != api.OK || !slices.Equal(got, list) {
			t.Errorf("turned back: %+v, %v", got, e)
		}
	}
}

// wrongPieces returns 16 bytes each that are no entry's, and not all zero.
func wrongPieces() []string {
	all := []string{
		raw(5, 0, ""), raw(5, 0, "ab"), raw(0, 0, "ab"), raw(5, 1, "ab"), raw(5, 3, "ab"), raw(5, 2, ""), raw(5, 13, "twelve bytes"), raw(5, 13, ""), raw(5, 12, longest),
		raw(0, 2, "ab"), raw(48, 2, "ab"), raw(49, 1, "a"), raw(256, 1, "a"), raw(257, 1, "a"), raw(0x2f01, 1, "a"), raw(0x0500, 2, "ab"), raw(0xffff, 1, "a"), raw(0x8001, 1, "a"), raw(0, 13, longest), raw(48, 13, longest),
		raw(5, 1, "."), raw(5, 2, ".."), raw(5, 1, "/"), raw(5, 2, "a/"), raw(5, 3, "a/b"), raw(5, 2, "/a"), raw(5, 3, "a\x00b"), raw(5, 2, "a\x00"), raw(5, 2, "\x00a"), raw(5, 1, "\x00"), raw(5, 2, "\x00\x00"),
		raw(5, 13, "twelve bytes/"), raw(5, 13, "twelve bytes\x00"), raw(5, 13, "/welve bytes."), raw(5, 13, "\x00welve bytes."), raw(5, 13, "a\x00..........."),
		"\x00\x00\x00\x00\x00\x00\x00\x00\x00\x00\x00\x00\x00\x00\x00\x01", strings.Repeat("\xff", 16), strings.Repeat("\x01", 16), strings.Repeat("a", 16),
	}
	for length := 14; length < 256; length++ {
		all = append(all, raw(5, length, longest), raw(5, length, ""), raw(0, length, ""))
	}
	return all
}

// P8.1, Decode: what is no entry's bytes, at each place among entries and behind them, and alone.
func TestDecodeWrong(t *testing.T) {
	good := pieces(some())
	for _, p := range wrongPieces() {
		if _, ok := modelDecode(block(p)); ok {
			t.Fatalf("%q is right", p)
		}
		for k := range 16 {
			all := slices.Clone(good)
			all[k] = p
			undecoded(t, block(all...))
			undecoded(t, block(all[:k+1]...))
			alone := block()
			copy(alone[16*k:], p)
			undecoded(t, alone)
		}
	}
}

// P8.1, Decode: each number of two bytes, with a short and a long name.
func TestDecodeNumbers(t *testing.T) {
	for n := range 1 << 16 {
		for _, name := range []string{"a", longest} {
			b := block(raw(n, len(name), name))
			got, e := Decode(b)
			if n >= 1 && n <= 47 {
				if e != api.OK || len(got) != 1 || got[0] != (Entry{n, name}) {
					t.Fatalf("%d: %+v, %v", n, got, e)
				}
			} else if got != nil || e != api.ErrForm {
				t.Fatalf("%d: %+v, %v", n, got, e)
			}
		}
	}
}

// P8.1, Decode: entries behind zero bytes, after each number of entries and of zero ones.
func TestDecodeGap(t *testing.T) {
	good, zero := pieces(some()), raw(0, 0, "")
	for before := range 15 {
		for gap := 1; before+gap < 16; gap++ {
			for after := 1; before+gap+after <= 16; after++ {
				undecoded(t, block(slices.Concat(good[:before], slices.Repeat([]string{zero}, gap), good[:after])...))
			}
		}
	}
	// A shift of the whole by less than an entry is no block, either.
	whole := block(good[:15]...)
	for shift := 1; shift < 16; shift++ {
		undecoded(t, append(make([]byte, shift), whole[:256-shift]...))
	}
}

// P8.1, Decode: each byte of a block, with each value.
func TestDecodeBytes(t *testing.T) {
	for _, n := range []int{0, 1, 7, 15, 16} {
		b := block(pieces(some()[:n])...)
		for at := range b {
			was := b[at]
			for c := range 256 {
				b[at] = byte(c)
				decoded(t, b)
			}
			b[at] = was
		}
	}
}

// P8.1, Decode: each pair of a length and a number of bytes behind it, at each place.
func TestDecodeLengths(t *testing.T) {
	for length := range 256 {
		for n := range 14 {
			for k := range 16 {
				b := block(pieces(some()[:k])...)
				copy(b[16*k:], raw(7, length, longest[:n]))
				decoded(t, b)
				if _, e := Decode(b); (e == api.OK) != (length == n && n > 0) {
					t.Fatalf("length %d before %d bytes: %v", length, n, e)
				}
			}
		}
	}
}

// fill overwrites b with its room to spare.
func fill(b []byte) {
	b = b[:cap(b)]
	for i := range b {
		b[i] ^= 255
	}
}

// R3: what Encode returns is new memory, and what it is given stays as it is, with what lies behind it.
func TestEncodeNoSharing(t *testing.T) {
	for n := range 17 {
		long := append(some(), Entry{30, "spare"})
		b, _ := Encode(long[:n])
		again, _ := Encode(long[:n])
		fill(b)
		want := block(pieces(some()[:n])...)
		if !slices.Equal(long[:16], some()) || long[16] != (Entry{30, "spare"}) || !bytes.Equal(again, want) {
			t.Errorf("Encode changes its argument, or shares: %+v, %q", long, again)
		}
		clear(long)
		if !bytes.Equal(again, want) {
			t.Errorf("Encode keeps its argument: %q", again)
		}
	}
}

// R3: what Decode returns is new memory, the names with it, and what it is given stays as it is, with what lies behind it.
func TestDecodeNoSharing(t *testing.T) {
	for n := range 17 {
		want := some()[:n]
		all := append(block(pieces(want)...), "spare"...)
		got, _ := Decode(all[:256])
		other, _ := Decode(all[:256])
		if string(all[256:]) != "spare" || !bytes.Equal(all[:256], block(pieces(want)...)) {
			t.Errorf("Decode changes its argument: %q", all)
		}
		fill(all)
		clear(other[:cap(other)])
		if !slices.Equal(got, want) {
			t.Errorf("Decode keeps its argument, or shares: %+v", got)
		}
	}
}

// R3: a call that refuses its argument leaves it as it is, too.
func TestRefusedUnchanged(t *testing.T) {
	list := placed(9, Entry{48, "a"})
	refused(t, list)
	many := append(some(), Entry{1, "a"})
	refused(t, many)
	if !slices.Equal(list, placed(9, Entry{48, "a"})) || !slices.Equal(many, append(some(), Entry{1, "a"})) {
		t.Error("a refused argument is changed")
	}
}

// R2: the same call answers the same, whatever was called between.
func TestSameAgain(t *testing.T) {
	for range 3 {
		holds(t, some())
		refused(t, placed(0, Entry{}))
		undecoded(t, nil)
		undecoded(t, block(raw(48, 1, "a")))
		holds(t, nil)
		named(t, "a", true)
		named(t, "..", false)
		holds(t, some()[:3])
	}
}
