package group

import (
	"bytes"
	"hash/fnv"
	"math"
	"slices"
	"testing"

	"ashlar/api"
	"ashlar/bits"
)

// odd holds numbers that no group has, also such that are right ones when cut to fewer bytes, or times 64.
var odd = []int{
	math.MinInt, math.MinInt + 1, math.MinInt + 11, -1 << 58, -1<<58 + 1, -1 << 32, -1<<32 + 5, -1 << 31, -1<<16 + 3, -1 << 16,
	-65535, -256, -255, -64, -13, -12, -11, -2, -1,
	12, 13, 14, 16, 63, 64, 65, 128, 192, 255, 256, 257, 512, 768, 65535,
	1 << 16, 1<<16 + 1, 1<<16 + 11, 1<<31 - 1, 1 << 31, 1 << 32, 1<<32 + 1, 1<<32 + 11, 1 << 58, 1<<58 + 1, 1<<58 + 11,
	math.MaxInt - 63, math.MaxInt - 1, math.MaxInt,
}

// modelSeal lays a sealed block of any length, to have blocks whose length alone is wrong.
func modelSeal(content string, length int) []byte {
	b := make([]byte, length)
	copy(b[:length-4], content)
	h := fnv.New32a()
	h.Write(b[:length-4])
	n := h.Sum32()
	copy(b[length-4:], []byte{byte(n), byte(n >> 8), byte(n >> 16), byte(n >> 24)})
	return b
}

// modelContent says the chapter's bytes of a descriptor: used is taken as it comes, right or wrong.
func modelContent(g, used int, row string) string {
	return "desc" + string([]byte{byte(g % 256), byte(g / 256), byte(used % 256), byte(used / 256)}) + row
}

// ones counts the bits of row by division.
func ones(row string) int {
	count := 0
	for _, c := range []byte(row) {
		for n := int(c); n > 0; n /= 2 {
			count += n % 2
		}
	}
	return count
}

// rows returns bytes of rows of 64 bits: none and all used, each one alone, each one alone not, and some more.
func rows() []string {
	all := []string{"\x01\x80\x01\x80\x01\x80\x01\x80", "\xff\x00\xff\x00\xff\x00\xff\x00", "\x0f\x1e\x2d\x3c\x4b\x5a\x69\x78", "desc\x01\x00\x02\x00"}
	for i := -1; i < 64; i++ {
		zeros := make([]byte, 8)
		full := bytes.Repeat([]byte{255}, 8)
		if i >= 0 {
			zeros[i/8] = []byte{1, 2, 4, 8, 16, 32, 64, 128}[i%8]
			full[i/8] -= zeros[i/8]
		}
		all = append(all, string(zeros), string(full))
	}
	return all
}

// rowOf returns a row of n bits, those of row as far as they go.
func rowOf(n int, row string) *bits.Row {
	r := bits.New(n)
	for i := range min(n, 64) {
		r.Set(i, int(row[i/8])>>(i%8)%2 == 1)
	}
	return r
}

// holds tests Encode and Decode on a right descriptor.
func holds(t *testing.T, g int, row string) {
	t.Helper()
	want := modelSeal(modelContent(g, ones(row), row), 256)
	r := rowOf(64, row)
	if b, e := Encode(Desc{Group: g, Bits: r}); e != api.OK || !bytes.Equal(b, want) {
		t.Fatalf("Encode(%d, %x): %x, %v", g, row, b, e)
	}
	if string(r.Bytes()) != row || r.Len() != 64 {
		t.Fatalf("Encode(%d, %x) changes the row: %x", g, row, r.Bytes())
	}
	got, e := Decode(want)
	if e != api.OK || got.Group != g || got.Bits.Len() != 64 || string(got.Bits.Bytes()) != row {
		t.Fatalf("Decode of (%d, %x): %d, %x, %v", g, row, got.Group, got.Bits.Bytes(), e)
	}
}

// refused holds that d has no block.
func refused(t *testing.T, d Desc) {
	t.Helper()
	if b, e := Encode(d); b != nil || e != api.ErrArg {
		t.Fatalf("Encode(%d, %d bits): %x, %v", d.Group, d.Bits.Len(), b, e)
	}
}

// undecoded holds that b is no descriptor's block.
func undecoded(t *testing.T, b []byte) {
	t.Helper()
	if d, e := Decode(b); d != (Desc{}) || e != api.ErrForm {
		t.Fatalf("Decode(%x): %d, %x, %v", b, d.Group, d.Bits.Bytes(), e)
	}
}

// modelFormed says the chapter's words of an owner, with the limits written out.
func modelFormed(ino, at int) bool {
	free := ino == 0 && at == 0
	fixed := ino == 65535 && at == 0
	table := ino == 65534 && (at == 0 || at == 1 || at == 2 || at == 3 || at == 4 || at == 5)
	file := ino > 0 && ino <= 47 && (at <= 137 || at == 65535)
	return free || fixed || table || file
}

// ats holds all edges of At, and what lies about them.
func ats() []int {
	return slices.Concat(span(0, 300), span(32700, 32800), span(65200, 65535))
}

func span(least, most int) []int {
	var all []int
	for n := least; n <= most; n++ {
		all = append(all, n)
	}
	return all
}

func owner(ino, at int) api.Owner {
	return api.Owner{Ino: uint16(ino), At: uint16(at)}
}

// wrong holds owners of each kind that are not well formed.
var wrong = []api.Owner{
	{At: 1}, {At: 0xffff}, {At: 256}, {Ino: 0xffff, At: 1}, {Ino: 0xffff, At: 0xffff}, {Ino: 0xffff, At: 256},
	{Ino: 0xfffe, At: 6}, {Ino: 0xfffe, At: 0xffff}, {Ino: 0xfffe, At: 256}, {Ino: 48}, {Ino: 48, At: 0xffff}, {Ino: 49}, {Ino: 256}, {Ino: 257},
	{Ino: 0xfffd}, {Ino: 0xfffd, At: 0xffff}, {Ino: 0xff00}, {Ino: 0x7fff}, {Ino: 0x8000},
	{Ino: 1, At: 138}, {Ino: 47, At: 138}, {Ino: 1, At: 139}, {Ino: 1, At: 255}, {Ino: 1, At: 256}, {Ino: 47, At: 0xfffe}, {Ino: 1, At: 0x8000},
}

// some returns the owners of a group that has blocks of every kind, and free ones between.
func some() []api.Owner {
	list := make([]api.Owner, 64)
	for i, o := range []api.Owner{
		{Ino: 0xffff}, {Ino: 0xffff}, {}, {Ino: 0xfffe}, {Ino: 0xfffe, At: 5}, {}, {Ino: 1}, {Ino: 1, At: 137}, {Ino: 1, At: 0xffff},
		{Ino: 47}, {Ino: 47, At: 137}, {Ino: 47, At: 0xffff}, {}, {}, {Ino: 2, At: 9}, {Ino: 3, At: 10}, {Ino: 46, At: 136}, {Ino: 0xfffe, At: 1},
	} {
		list[i] = o
	}
	list[63] = api.Owner{Ino: 17, At: 113}
	return list
}

// lists returns lists of owners: none, all of one kind, some of each, those of fresh groups, and each place alone used.
func lists() [][]api.Owner {
	all := [][]api.Owner{some(), slices.Repeat([]api.Owner{{}}, 64)}
	for _, o := range []api.Owner{{Ino: 0xffff}, {Ino: 0xfffe}, {Ino: 0xfffe, At: 5}, {Ino: 1}, {Ino: 47, At: 137}, {Ino: 47, At: 0xffff}, {Ino: 1, At: 0xffff}} {
		all = append(all, slices.Repeat([]api.Owner{o}, 64))
		for i := range 64 {
			alone := make([]api.Owner, 64)
			alone[i] = o
			all = append(all, alone)
		}
	}
	return all
}

// modelPage says the chapter's bytes of a list of any length, well formed or not.
func modelPage(list []api.Owner) []byte {
	var b []byte
	for _, o := range list {
		b = append(b, byte(o.Ino%256), byte(o.Ino/256), byte(o.At%256), byte(o.At/256))
	}
	return b
}

// modelRow says which blocks have an owner.
func modelRow(list []api.Owner) string {
	row := make([]byte, 8)
	for i, o := range list {
		if o.Ino != 0 || o.At != 0 {
			row[i/8] += []byte{1, 2, 4, 8, 16, 32, 64, 128}[i%8]
		}
	}
	return string(row)
}

// P6.1, Formed: each number of an inode with each At about an edge, and each At with each kind.
func TestFormed(t *testing.T) {
	try := func(ino, at int) {
		if got := Formed(owner(ino, at)); got != modelFormed(ino, at) {
			t.Fatalf("Formed(%d, %d): %v", ino, at, got)
		}
	}
	for ino := range 1 << 16 {
		for _, at := range []int{0, 1, 5, 6, 47, 48, 127, 128, 137, 138, 255, 256, 32767, 65534, 65535} {
			try(ino, at)
		}
	}
	for at := range 1 << 16 {
		for _, ino := range []int{0, 1, 2, 46, 47, 48, 49, 255, 256, 32768, 65532, 65533, 65534, 65535} {
			try(ino, at)
		}
	}
}

// P6.1, Formed: the edges that the chapter names, written out.
func TestFormedEdges(t *testing.T) {
	for _, o := range []api.Owner{
		{}, {Ino: api.Fixed}, {Ino: api.Table}, {Ino: api.Table, At: 5}, {Ino: 1}, {Ino: 1, At: 1}, {Ino: 47}, {Ino: 47, At: 1},
		{Ino: 1, At: 9}, {Ino: 1, At: 10}, {Ino: 1, At: 137}, {Ino: 47, At: 137}, {Ino: 1, At: api.MapAt}, {Ino: 47, At: api.MapAt},
	} {
		if !Formed(o) {
			t.Errorf("%v is not well formed", o)
		}
	}
	for _, o := range wrong {
		if Formed(o) {
			t.Errorf("%v is well formed", o)
		}
	}
}

// P6.1: descriptors with their bytes written out; the number of used blocks is theirs.
func TestWrittenOut(t *testing.T) {
	for _, c := range []struct {
		group int
		row   string
		bytes string
	}{
		{1, "\x03\x00\x00\x00\x00\x00\x00\x00", "desc\x01\x00\x02\x00\x03\x00\x00\x00\x00\x00\x00\x00"},
		{0, "\xff\xff\xff\xff\xff\x07\x00\x80", "desc\x00\x00\x2c\x00\xff\xff\xff\xff\xff\x07\x00\x80"},
		{11, "\x00\x00\x00\x00\x00\x00\x00\x00", "desc\x0b\x00\x00\x00\x00\x00\x00\x00\x00\x00\x00\x00"},
		{11, "\xff\xff\xff\xff\xff\xff\xff\xff", "desc\x0b\x00\x40\x00\xff\xff\xff\xff\xff\xff\xff\xff"},
		{5, "\x00\x00\x00\x00\x00\x00\x00\x01", "desc\x05\x00\x01\x00\x00\x00\x00\x00\x00\x00\x00\x01"},
		{10, "\x10\x20\x40\x80\x01\x02\x04\x08", "desc\x0a\x00\x08\x00\x10\x20\x40\x80\x01\x02\x04\x08"},
	} {
		holds(t, c.group, c.row)
		b, e := Encode(Desc{Group: c.group, Bits: rowOf(64, c.row)})
		if e != api.OK || !bytes.Equal(b, modelSeal(c.bytes, 256)) {
			t.Errorf("group %d: %x, %v", c.group, b, e)
		}
	}
}

// P6.1, Encode and Decode there and back: each group with many rows.
func TestDesc(t *testing.T) {
	for g := range 12 {
		for _, row := range rows() {
			holds(t, g, row)
		}
	}
}

// P6.1, Encode: no other number is a group's.
func TestEncodeGroup(t *testing.T) {
	for _, row := range []string{"\x00\x00\x00\x00\x00\x00\x00\x00", "\x03\x00\x00\x00\x00\x00\x00\x00"} {
		for g := -100; g < 1200; g++ {
			if g < 0 || g > 11 {
				refused(t, Desc{Group: g, Bits: rowOf(64, row)})
			} else {
				holds(t, g, row)
			}
		}
		for _, g := range odd {
			refused(t, Desc{Group: g, Bits: rowOf(64, row)})
			refused(t, Desc{Group: g})
		}
	}
}

// P6.1 and R1, Encode: a nil row, a row that is the zero one, and rows of each other length.
func TestEncodeBits(t *testing.T) {
	for g := range 12 {
		refused(t, Desc{Group: g})
		refused(t, Desc{Group: g, Bits: new(bits.Row)})
		for _, row := range []string{"\x00\x00\x00\x00\x00\x00\x00\x00", "\xff\xff\xff\xff\xff\xff\xff\xff"} {
			for _, n := range append(span(0, 200), 255, 256, 320, 512, 4032, 4095, 4096) {
				if n != 64 {
					refused(t, Desc{Group: g, Bits: rowOf(n, row)})
				}
			}
		}
	}
	refused(t, Desc{})
}

// P6.1, Decode: sealed blocks with each number of two bytes as the group's.
func TestDecodeGroup(t *testing.T) {
	row := "\x0f\x1e\x2d\x3c\x4b\x5a\x69\x78"
	for g := range 1 << 16 {
		if g < 12 {
			holds(t, g, row)
		} else {
			undecoded(t, modelSeal(modelContent(g, ones(row), row), 256))
		}
	}
}

// P6.1, Decode: sealed blocks with a number of used blocks that is not that of the bits.
func TestDecodeUsed(t *testing.T) {
	for i, row := range rows() {
		used := ones(row)
		for _, n := range append(span(0, 70), 128, 256, used+256, used+65280, 1<<15, 1<<16-1) {
			if n != used {
				undecoded(t, modelSeal(modelContent(i%12, n, row), 256))
			}
		}
	}
}

// P6.1, Decode: sealed blocks that do not begin with the four characters, each of them turned.
func TestDecodeMagic(t *testing.T) {
	content := modelContent(7, 2, "\x03\x00\x00\x00\x00\x00\x00\x00")
	for at := range 4 {
		for turn := 1; turn < 256; turn++ {
			turned := []byte(content)
			turned[at] ^= byte(turn)
			undecoded(t, modelSeal(string(turned), 256))
		}
	}
	for _, start := range []string{"Desc", "DESC", "desk", "des", "", "desc ", " desc", "\x00\x00\x00\x00"} {
		undecoded(t, modelSeal(start+content[4:], 256))
	}
}

// P6.1, Decode: sealed blocks with another byte than zero behind the bits, in each place.
func TestDecodeRest(t *testing.T) {
	for _, row := range []string{"\x03\x00\x00\x00\x00\x00\x00\x00", "\xff\xff\xff\xff\xff\xff\xff\xff"} {
		content := modelContent(3, ones(row), row)
		for at := 16; at < 252; at++ {
			for _, c := range []byte{1, 32, 128, 255} {
				long := make([]byte, 252)
				copy(long, content)
				long[at] = c
				undecoded(t, modelSeal(string(long), 256))
			}
		}
	}
}

// P6.1, Decode: blocks that are not sealed: one byte turned, and no new checksum.
func TestDecodeTurned(t *testing.T) {
	row := "\x10\x20\x40\x80\x01\x02\x04\x08"
	b := modelSeal(modelContent(10, 8, row), 256)
	for i := range b {
		for turn := 1; turn < 256; turn++ {
			b[i] ^= byte(turn)
			undecoded(t, b)
			b[i] ^= byte(turn)
		}
	}
	if d, e := Decode(b); e != api.OK || d.Group != 10 || string(d.Bits.Bytes()) != row {
		t.Errorf("turned back: %d, %x, %v", d.Group, d.Bits.Bytes(), e)
	}
}

// P6.1, Decode: blocks of the wrong length, sealed at theirs or cut from a right one, and blocks of nothing in particular.
func TestDecodeLength(t *testing.T) {
	content := modelContent(1, 2, "\x03\x00\x00\x00\x00\x00\x00\x00")
	long := append(modelSeal(content, 256), modelSeal(content, 256)...)
	for length := range len(long) {
		if length == 256 {
			continue
		}
		undecoded(t, long[:length])
		if length >= len(content)+4 {
			undecoded(t, modelSeal(content, length))
		}
	}
	undecoded(t, nil)
	undecoded(t, []byte{})
	undecoded(t, make([]byte, 256))
	undecoded(t, bytes.Repeat([]byte{255}, 256))
	undecoded(t, modelSeal("", 256))
	undecoded(t, modelPage(some()))
}

// pages tests Page and Owners there and back on a right list.
func pages(t *testing.T, list []api.Owner) {
	t.Helper()
	before := slices.Clone(list)
	b, e := Page(list)
	if e != api.OK || !bytes.Equal(b, modelPage(list)) {
		t.Fatalf("Page(%v): %x, %v", list, b, e)
	}
	got, e := Owners(b)
	if e != api.OK || !slices.Equal(got, before) || !slices.Equal(list, before) {
		t.Fatalf("Owners: %v, %v, not %v", got, e, before)
	}
}

// unpaged holds that list makes neither a page nor a descriptor, and its bytes no owners.
func unpaged(t *testing.T, list []api.Owner) {
	t.Helper()
	if b, e := Page(list); b != nil || e != api.ErrArg {
		t.Fatalf("Page(%v): %x, %v", list, b, e)
	}
	for _, g := range []int{0, 5, 11, 12, -1} {
		if d, e := Of(g, list); d != (Desc{}) || e != api.ErrArg {
			t.Fatalf("Of(%d, %v): %d, %x, %v", g, list, d.Group, d.Bits.Bytes(), e)
		}
	}
	unowned(t, modelPage(list))
}

// unowned holds that b is no owners' page.
func unowned(t *testing.T, b []byte) {
	t.Helper()
	if list, e := Owners(b); list != nil || e != api.ErrForm {
		t.Fatalf("Owners(%x): %v, %v", b, list, e)
	}
}

// P6.1, Page and Owners: many lists there and back; each owner that is well formed, about all edges.
func TestPage(t *testing.T) {
	for _, list := range lists() {
		pages(t, list)
	}
	for _, ino := range append(span(0, 47), 65534, 65535) {
		var list []api.Owner
		for _, at := range ats() {
			if modelFormed(ino, at) {
				list = append(list, owner(ino, at))
			}
		}
		for start := 0; start < len(list); start += 64 {
			part := slices.Clone(list[start:min(start+64, len(list))])
			pages(t, append(part, make([]api.Owner, 64-len(part))...))
		}
	}
}

// P6.1, Page: bytes written out: owners in their order, two bytes of Ino, then two of At.
func TestPageWrittenOut(t *testing.T) {
	list := make([]api.Owner, 64)
	list[0], list[1] = api.Owner{Ino: 0xffff}, api.Owner{Ino: 47, At: 0xffff}
	list[3], list[63] = api.Owner{Ino: 0xfffe, At: 4}, api.Owner{Ino: 7, At: 130}
	want := "\xff\xff\x00\x00\x2f\x00\xff\xff\x00\x00\x00\x00\xfe\xff\x04\x00" + string(make([]byte, 236)) + "\x07\x00\x82\x00"
	if b, e := Page(list); e != api.OK || string(b) != want {
		t.Errorf("Page: %x, %v", b, e)
	}
	if got, e := Owners([]byte(want)); e != api.OK || !slices.Equal(got, list) {
		t.Errorf("Owners: %v, %v", got, e)
	}
}

// P6.1 and P6.2, Page, Owners, Of: each owner in turn not well formed, in each way.
func TestPageWrong(t *testing.T) {
	for _, list := range [][]api.Owner{some(), make([]api.Owner, 64)} {
		for i := range list {
			for _, o := range wrong {
				bad := slices.Clone(list)
				bad[i] = o
				unpaged(t, bad)
			}
		}
	}
	unpaged(t, slices.Repeat([]api.Owner{{At: 1}}, 64))
}

// P6.1 and P6.2, Page, Of: too few owners and too many, all of them well formed, also with room to spare.
func TestPageCount(t *testing.T) {
	for _, o := range []api.Owner{{}, {Ino: 0xffff}, {Ino: 3, At: 4}} {
		long := slices.Repeat([]api.Owner{o}, 400)
		for n := range long {
			if n != 64 {
				unpaged(t, long[:n])
			} else {
				pages(t, long[:n])
			}
		}
	}
	unpaged(t, nil)
	unpaged(t, []api.Owner{})
}

// P6.1, Owners: pages of each other length, of right owners as far as they go.
func TestOwnersLength(t *testing.T) {
	for _, long := range [][]byte{bytes.Repeat(modelPage(some()), 3), make([]byte, 768)} {
		for n := range long {
			if n != 256 {
				unowned(t, long[:n])
			}
		}
	}
	unowned(t, nil)
	unowned(t, bytes.Repeat([]byte{255}, 256))
	unowned(t, bytes.Repeat([]byte{1}, 256))
	unowned(t, modelSeal(modelContent(0, 0, ""), 256))
}

// P6.2, Of: the descriptor of each group for many lists, against the page.
func TestOf(t *testing.T) {
	for i, list := range lists() {
		g := i % 12
		before := slices.Clone(list)
		d, e := Of(g, list)
		if e != api.OK || d.Group != g || d.Bits.Len() != 64 || string(d.Bits.Bytes()) != modelRow(list) {
			t.Fatalf("Of(%d, %v): %d, %x, %v", g, list, d.Group, d.Bits.Bytes(), e)
		}
		if !slices.Equal(list, before) {
			t.Fatalf("Of changes its argument: %v", list)
		}
		b, e := Encode(d)
		if e != api.OK || !bytes.Equal(b, modelSeal(modelContent(g, ones(modelRow(list)), modelRow(list)), 256)) {
			t.Fatalf("Encode(Of(%d)): %x, %v", g, b, e)
		}
	}
}

// P6.2, Of: used are exactly the blocks that are not free, written out.
func TestOfWrittenOut(t *testing.T) {
	for g := range 12 {
		d, e := Of(g, some())
		if e != api.OK || d.Group != g || string(d.Bits.Bytes()) != "\xdb\xcf\x03\x00\x00\x00\x00\x80" || d.Bits.Count() != 15 {
			t.Errorf("Of(%d): %d, %x, %v", g, d.Group, d.Bits.Bytes(), e)
		}
	}
}

// P6.2, Of: numbers that are no group's.
func TestOfGroup(t *testing.T) {
	for _, g := range append(span(-70, 1000), odd...) {
		d, e := Of(g, some())
		if g >= 0 && g <= 11 {
			if e != api.OK || d.Group != g {
				t.Errorf("Of(%d): %d, %v", g, d.Group, e)
			}
		} else if d != (Desc{}) || e != api.ErrArg {
			t.Errorf("Of(%d): %d, %v", g, d.Group, e)
		}
	}
}

// P6.2, Fresh: each group; in group 0 the blocks from 43 to 62 are free, in the others those after the first two.
func TestFresh(t *testing.T) {
	for g := range 12 {
		list := Fresh(g)
		if len(list) != 64 {
			t.Fatalf("Fresh(%d): %d owners", g, len(list))
		}
		for i, o := range list {
			free := i >= 2
			if g == 0 {
				free = i >= 43 && i <= 62
			}
			want := api.Owner{Ino: 0xffff}
			if free {
				want = api.Owner{}
			}
			if o != want {
				t.Errorf("Fresh(%d): block %d has %v", g, i, o)
			}
		}
		pages(t, list)
	}
}

// P6.2, Fresh: what Of tells of it: 44 used blocks in group 0, and in each other one the first two.
func TestFreshOf(t *testing.T) {
	for g := range 12 {
		want := "\x03\x00\x00\x00\x00\x00\x00\x00"
		if g == 0 {
			want = "\xff\xff\xff\xff\xff\x07\x00\x80"
		}
		d, e := Of(g, Fresh(g))
		if e != api.OK || string(d.Bits.Bytes()) != want {
			t.Errorf("Of(%d, Fresh(%d)): %x, %v", g, g, d.Bits.Bytes(), e)
		}
		holds(t, g, want)
	}
}

// P6.2, Fresh: none for a number that is no group's.
func TestFreshNone(t *testing.T) {
	for _, g := range slices.Concat(span(-1000, -1), span(12, 1000), odd) {
		if list := Fresh(g); len(list) != 0 {
			t.Errorf("Fresh(%d): %v", g, list)
		}
	}
}

// R3: what Encode and Decode return is new memory, and what they are given stays as it is.
func TestDescNoSharing(t *testing.T) {
	row := "\x10\x20\x40\x80\x01\x02\x04\x08"
	r := rowOf(64, row)
	b, _ := Encode(Desc{Group: 10, Bits: r})
	again, _ := Encode(Desc{Group: 10, Bits: r})
	fill(b)
	if string(r.Bytes()) != row {
		t.Errorf("a block shares its memory with the row: %x", r.Bytes())
	}
	all := slices.Concat(again, []byte("spare"))
	before := slices.Clone(all)
	d, e := Decode(all[:256])
	other, _ := Decode(all[:256])
	if e != api.OK || !bytes.Equal(all, before) {
		t.Errorf("Decode changes its argument: %v", e)
	}
	clear(all)
	other.Bits.Set(0, true)
	if d.Group != 10 || string(d.Bits.Bytes()) != row {
		t.Errorf("Decode keeps its argument, or shares: %x", d.Bits.Bytes())
	}
	r.Set(0, true)
	if !bytes.Equal(again, before[:256]) {
		t.Errorf("a block changes with its row: %x", again)
	}
}

// fill overwrites b with its room to spare.
func fill(b []byte) {
	b = b[:cap(b)]
	for i := range b {
		b[i] ^= 255
	}
}

// R3: what Page, Owners, Of and Fresh return is new memory, and what they are given stays as it is.
func TestListNoSharing(t *testing.T) {
	long := append(some(), api.Owner{Ino: 5, At: 5})
	before := slices.Clone(long)
	list := long[:64]
	page, _ := Page(list)
	again, _ := Page(list)
	d, _ := Of(4, list)
	fill(page)
	if !bytes.Equal(again, modelPage(before[:64])) || !slices.Equal(long, before) {
		t.Errorf("pages share their memory: %x", again)
	}
	all := slices.Concat(again, []byte("spare"))
	got, _ := Owners(all[:256])
	other, _ := Owners(all[:256])
	if string(all[256:]) != "spare" || !bytes.Equal(all[:256], again) {
		t.Errorf("Owners changes its argument: %x", all)
	}
	clear(all)
	clear(other[:cap(other)])
	if !slices.Equal(got, before[:64]) {
		t.Errorf("Owners keeps its argument, or shares: %v", got)
	}
	clear(long)
	if string(d.Bits.Bytes()) != modelRow(before[:64]) || !bytes.Equal(again, modelPage(before[:64])) {
		t.Errorf("Of keeps its argument: %x", d.Bits.Bytes())
	}
	fresh := Fresh(0)
	clear(fresh[:cap(fresh)])
	if Fresh(0)[0] != (api.Owner{Ino: 0xffff}) {
		t.Errorf("Fresh hands out what it keeps")
	}
}

// R2: the same call answers the same, whatever was called between.
func TestSameAgain(t *testing.T) {
	row := "\x03\x00\x00\x00\x00\x00\x00\x01"
	for range 3 {
		holds(t, 11, row)
		pages(t, some())
		refused(t, Desc{Group: 12, Bits: rowOf(64, row)})
		undecoded(t, nil)
		unpaged(t, nil)
		unowned(t, nil)
		pages(t, Fresh(0))
		holds(t, 0, row)
	}
}
