package inode

import (
	"bytes"
	"math"
	"slices"
	"testing"

	"ashlar/api"
)

// odd holds numbers that nothing of an inode has, also such that are right ones when cut to fewer bytes.
var odd = []int{
	math.MinInt, math.MinInt + 1, math.MinInt + 3, math.MinInt + 8, -1 << 32, -1<<32 + 1, -1<<32 + 8, -1 << 31, -1<<31 + 1, -1<<16 + 1, -1 << 16, -65535,
	-35328, -768, -767, -256, -255, -254, -200, -128, -48, -9, -8, -4, -3, -2, -1,
	1 << 16, 1<<16 + 1, 1<<16 + 3, 1<<16 + 8, 1<<16 + 767, 1<<17 + 2, 1<<31 - 1, 1 << 31, 1<<31 + 1,
	1 << 32, 1<<32 + 1, 1<<32 + 2, 1<<32 + 3, 1<<32 + 8, 1<<32 + 200, 1<<32 + 35328, 1<<33 + 1, 1<<40 + 1, 1<<48 + 1, 1<<56 + 1,
	math.MaxInt - 63, math.MaxInt - 1, math.MaxInt,
}

func span(least, most int) []int {
	var all []int
	for n := least; n <= most; n++ {
		all = append(all, n)
	}
	return all
}

// about holds the numbers from far below 0 to far beyond each limit but the greatest size, and the odd ones.
func about() []int {
	return append(span(-300, 1400), odd...)
}

// sizes holds the sizes about each limit, and the odd numbers.
func sizes() []int {
	return slices.Concat(span(-10, 1100), span(35000, 35700), span(65500, 65540), odd)
}

// low writes n by division, the lowest byte first.
func low(n, size int) []byte {
	var b []byte
	for range size {
		b = append(b, byte(n%256))
		n /= 256
	}
	return b
}

// modelBytes says the chapter's bytes of an inode, and whether each integer fits into its own.
func modelBytes(i Inode) ([]byte, bool) {
	fits := i.Kind >= 0 && i.Kind < 256 && i.Links >= 0 && i.Links < 256 && i.Size >= 0 && i.Size < 1<<32
	b := slices.Concat(low(i.Kind, 1), low(i.Links, 1), low(i.Size, 4))
	for _, n := range append(i.Direct[:], i.Map) {
		fits = fits && n >= 0 && n < 1<<16
		b = append(b, low(n, 2)...)
	}
	return append(b, 0, 0, 0, 0), fits
}

// modelBlock says the bytes of all inodes of a list, and whether each integer fits.
func modelBlock(list []Inode) ([]byte, bool) {
	var b []byte
	all := true
	for _, i := range list {
		one, fits := modelBytes(i)
		b, all = append(b, one...), all && fits
	}
	return b, all
}

// some returns eight inodes of all kinds, whose numbers differ and lie at the limits, too.
func some() []Inode {
	return []Inode{
		{},
		{Kind: 2, Links: 1, Size: 272, Direct: [10]int{50, 51}},
		{Kind: 1, Links: 200, Size: 35328, Direct: [10]int{767, 766, 765, 764, 763, 762, 761, 760, 759, 758}, Map: 767},
		{Kind: 3, Links: 3, Size: 200, Direct: [10]int{258}},
		{Kind: 1, Links: 2, Size: 300, Direct: [10]int{0, 50, 0, 0, 0, 0, 0, 0, 0, 513}, Map: 66},
		{Kind: 1},
		{},
		{Kind: 2, Links: 1, Size: 4112, Direct: [10]int{1, 2, 3, 4, 5, 6, 7, 8, 9, 10}, Map: 11},
	}
}

// placed returns eight inodes, i at place k among others.
func placed(k int, i Inode) []Inode {
	list := some()
	list[k] = i
	return list
}

// holds tests Encode and Decode there and back on a right list.
func holds(t *testing.T, list []Inode) {
	t.Helper()
	before := slices.Clone(list)
	want, _ := modelBlock(list)
	if b, e := Encode(list); e != api.OK || !bytes.Equal(b, want) {
		t.Fatalf("Encode(%+v): %x, %v", list, b, e)
	}
	if got, e := Decode(want); e != api.OK || !slices.Equal(got, before) || !slices.Equal(list, before) {
		t.Fatalf("Decode: %+v, %v, not %+v", got, e, before)
	}
}

// refused holds that a list has no block, and its bytes, if it has some, are none.
func refused(t *testing.T, list []Inode) {
	t.Helper()
	if b, e := Encode(list); b != nil || e != api.ErrArg {
		t.Fatalf("Encode(%+v): %x, %v", list, b, e)
	}
	if b, fits := modelBlock(list); fits {
		undecoded(t, b)
	}
}

// undecoded holds that b is no block of inodes.
func undecoded(t *testing.T, b []byte) {
	t.Helper()
	if list, e := Decode(b); list != nil || e != api.ErrForm {
		t.Fatalf("Decode(%x): %+v, %v", b, list, e)
	}
}

// formed holds that i is well formed, and goes there and back.
func formed(t *testing.T, i Inode) {
	t.Helper()
	if !Formed(i) {
		t.Fatalf("%+v is not well formed", i)
	}
	holds(t, placed(5, i))
}

// unformed holds that i is not well formed, and has no bytes.
func unformed(t *testing.T, i Inode) {
	t.Helper()
	if Formed(i) {
		t.Fatalf("%+v is well formed", i)
	}
	refused(t, placed(5, i))
}

// tests hands each number to turn, and holds that exactly those from 0 to most make a well-formed inode.
func tests(t *testing.T, numbers []int, most int, turn func(n int) Inode) {
	t.Helper()
	for _, n := range numbers {
		if n >= 0 && n <= most {
			formed(t, turn(n))
		} else {
			unformed(t, turn(n))
		}
	}
}

// bases returns well-formed inodes of each kind but Free, bare ones and full ones, and the greatest size of each.
func bases() ([]Inode, []int) {
	full := [10]int{767, 1, 2, 3, 4, 5, 6, 7, 8, 766}
	return []Inode{
		{Kind: 1}, {Kind: 2}, {Kind: 3},
		{Kind: 1, Links: 200, Size: 35328, Direct: full, Map: 767},
		{Kind: 2, Links: 200, Size: 35328, Direct: full, Map: 767},
		{Kind: 3, Links: 200, Size: 200, Direct: full, Map: 767},
	}, []int{35328, 35328, 200, 35328, 35328, 200}
}

// P7.1, Formed: the edges that the chapter names, written out.
func TestFormedEdges(t *testing.T) {
	for _, i := range []Inode{
		{}, {Kind: 1}, {Kind: 2}, {Kind: 3},
		{Kind: 1, Links: 200}, {Kind: 2, Links: 200}, {Kind: 3, Links: 200},
		{Kind: 1, Size: 35328}, {Kind: 2, Size: 35328}, {Kind: 3, Size: 200}, {Kind: 2, Size: 1}, {Kind: 1, Size: 201},
		{Kind: 1, Map: 767}, {Kind: 2, Map: 767}, {Kind: 3, Map: 767}, {Kind: 3, Direct: [10]int{9: 767}}, {Kind: 1, Direct: [10]int{767}},
	} {
		formed(t, i)
	}
	for _, i := range []Inode{
		{Kind: -1}, {Kind: 4}, {Links: 1}, {Size: 1}, {Map: 1}, {Direct: [10]int{1}}, {Direct: [10]int{9: 1}},
		{Kind: 1, Links: -1}, {Kind: 1, Links: 201}, {Kind: 2, Links: 201}, {Kind: 3, Links: 201},
		{Kind: 1, Size: -1}, {Kind: 1, Size: 35329}, {Kind: 2, Size: 35329}, {Kind: 3, Size: 201}, {Kind: 3, Size: 35328}, {Kind: 3, Size: -1},
		{Kind: 1, Map: -1}, {Kind: 1, Map: 768}, {Kind: 2, Map: 768}, {Kind: 3, Map: 768},
		{Kind: 1, Direct: [10]int{-1}}, {Kind: 1, Direct: [10]int{768}}, {Kind: 2, Direct: [10]int{9: 768}}, {Kind: 3, Direct: [10]int{9: -1}},
	} {
		unformed(t, i)
	}
}

// P7.1, Formed: no other kinds, whatever else is right; a kind that is Free has nothing else.
func TestKind(t *testing.T) {
	list, _ := bases()
	for _, n := range about() {
		for _, i := range list {
			i.Kind = n
			bare := i == Inode{Kind: n}
			if n == 1 || n == 2 || n == 3 && i.Size <= 200 || n == 0 && bare {
				formed(t, i)
			} else {
				unformed(t, i)
			}
		}
	}
}

// P7.1, Formed: a free inode with each of the other parts in turn, of which only 0 is right.
func TestFree(t *testing.T) {
	tests(t, about(), 0, func(n int) Inode { return Inode{Links: n} })
	tests(t, sizes(), 0, func(n int) Inode { return Inode{Size: n} })
	tests(t, about(), 0, func(n int) Inode { return Inode{Map: n} })
	for k := range 10 {
		tests(t, about(), 0, func(n int) Inode {
			var i Inode
			i.Direct[k] = n
			return i
		})
	}
}

// P7.1, Formed: each of the other kinds with each part in turn, alone and with all others at their limits.
func TestParts(t *testing.T) {
	list, most := bases()
	for at, i := range list {
		tests(t, about(), 200, func(n int) Inode {
			i.Links = n
			return i
		})
		i = list[at]
		tests(t, sizes(), most[at], func(n int) Inode {
			i.Size = n
			return i
		})
		i = list[at]
		tests(t, about(), 767, func(n int) Inode {
			i.Map = n
			return i
		})
		for k := range 10 {
			i = list[at]
			tests(t, about(), 767, func(n int) Inode {
				i.Direct[k] = n
				return i
			})
		}
	}
}

// P7.1, Encode and Decode: all 32 bytes of an inode written out, at each place of a block.
func TestWrittenOut(t *testing.T) {
	for _, c := range []struct {
		i     Inode
		bytes string
	}{
		{Inode{}, string(make([]byte, 32))},
		{Inode{Kind: 1, Links: 2, Size: 300, Direct: [10]int{0, 50, 767}, Map: 66},
			"\x01\x02\x2c\x01\x00\x00\x00\x00\x32\x00\xff\x02\x00\x00\x00\x00\x00\x00\x00\x00\x00\x00\x00\x00\x00\x00\x42\x00\x00\x00\x00\x00"},
		{Inode{Kind: 1, Links: 200, Size: 35328, Direct: [10]int{256, 257, 258, 259, 260, 261, 262, 263, 264, 513}, Map: 766},
			"\x01\xc8\x00\x8a\x00\x00\x00\x01\x01\x01\x02\x01\x03\x01\x04\x01\x05\x01\x06\x01\x07\x01\x08\x01\x01\x02\xfe\x02\x00\x00\x00\x00"},
		{Inode{Kind: 2, Links: 1, Size: 16, Direct: [10]int{49}},
			"\x02\x01\x10\x00\x00\x00\x31\x00\x00\x00\x00\x00\x00\x00\x00\x00\x00\x00\x00\x00\x00\x00\x00\x00\x00\x00\x00\x00\x00\x00\x00\x00"},
		{Inode{Kind: 3, Links: 7, Size: 200, Direct: [10]int{9: 1}, Map: 2},
			"\x03\x07\xc8\x00\x00\x00\x00\x00\x00\x00\x00\x00\x00\x00\x00\x00\x00\x00\x00\x00\x00\x00\x00\x00\x01\x00\x02\x00\x00\x00\x00\x00"},
	} {
		for k := range 8 {
			list := placed(k, c.i)
			holds(t, list)
			b, e := Encode(list)
			if e != api.OK || len(b) != 256 || string(b[32*k:32*k+32]) != c.bytes {
				t.Errorf("%+v at %d: %x, %v", c.i, k, b, e)
			}
		}
	}
}

// P7.1, Encode and Decode there and back: free ones alone, some of each kind in all turns, one alone at each place.
func TestThereAndBack(t *testing.T) {
	holds(t, make([]Inode, 8))
	list, _ := bases()
	for k := range 8 {
		holds(t, slices.Concat(some()[k:], some()[:k]))
		for _, i := range list {
			alone := make([]Inode, 8)
			alone[k] = i
			holds(t, alone)
			holds(t, slices.Repeat([]Inode{i}, 8))
		}
	}
}

// P7.1, Encode: each inode in turn not well formed, among free ones and among others.
func TestEncodeWrong(t *testing.T) {
	for k := range 8 {
		for _, i := range []Inode{
			{Links: 1}, {Size: 256}, {Map: 1}, {Direct: [10]int{9: 1}}, {Kind: 4}, {Kind: -1}, {Kind: 256}, {Kind: 257}, {Kind: 1, Links: 201}, {Kind: 1, Links: 257},
			{Kind: 1, Size: 35329}, {Kind: 1, Size: 1 << 32}, {Kind: 3, Size: 201}, {Kind: 1, Map: 768}, {Kind: 2, Map: 1<<16 + 5}, {Kind: 2, Direct: [10]int{-1}}, {Kind: 2, Direct: [10]int{5: 768}},
		} {
			refused(t, placed(k, i))
			alone := make([]Inode, 8)
			alone[k] = i
			refused(t, alone)
		}
	}
}

// P7.1, Encode: too few and too many inodes, each of them well formed.
func TestEncodeCount(t *testing.T) {
	many := slices.Repeat(some(), 9)
	for n := range len(many) {
		if n != 8 {
			refused(t, many[:n])
			refused(t, make([]Inode, n))
		}
	}
	refused(t, nil)
	refused(t, make([]Inode, 256))
	// The ninth is not asked for, though the spare room has it.
	holds(t, many[:8])
}

// P7.1, Decode: blocks of each wrong length, cut from right ones.
func TestDecodeLength(t *testing.T) {
	b, _ := modelBlock(slices.Repeat(some(), 3))
	zeros := make([]byte, len(b))
	for length := range len(b) {
		if length != 256 {
			undecoded(t, b[:length])
			undecoded(t, zeros[:length])
		}
	}
	undecoded(t, nil)
	undecoded(t, []byte{})
	if list, e := Decode(zeros[:256]); e != api.OK || !slices.Equal(list, make([]Inode, 8)) {
		t.Errorf("zeros: %+v, %v", list, e)
	}
}

// P7.1, Decode: another byte than zero at an inode's end, in each place.
func TestDecodeRest(t *testing.T) {
	for _, list := range [][]Inode{some(), make([]Inode, 8)} {
		b, _ := modelBlock(list)
		for k := range 8 {
			for at := 32*k + 28; at < 32*k+32; at++ {
				for c := 1; c < 256; c++ {
					b[at] = byte(c)
					undecoded(t, b)
				}
				b[at] = 0
			}
		}
		if got, e := Decode(b); e != api.OK || !slices.Equal(got, list) {
			t.Errorf("turned back: %+v, %v", got, e)
		}
	}
}

// modelInode reads an inode of 32 bytes by sums.
func modelInode(b []byte) Inode {
	two := func(at int) int { return int(b[at]) + 256*int(b[at+1]) }
	i := Inode{Kind: int(b[0]), Links: int(b[1]), Size: two(2) + 65536*two(4), Map: two(26)}
	for k := range 10 {
		i.Direct[k] = two(6 + 2*k)
	}
	return i
}

// modelFormed says the chapter's words, with the limits written out.
func modelFormed(i Inode) bool {
	if i.Kind == 0 {
		return i.Links == 0 && i.Size == 0 && i.Map == 0 && i.Direct == [10]int{}
	}
	right := i.Kind <= 2 && i.Kind >= 1 && i.Size <= 35328 || i.Kind == 3 && i.Size <= 200
	right = right && i.Links >= 0 && i.Links <= 200 && i.Size >= 0 && i.Map >= 0 && i.Map <= 767
	for _, n := range i.Direct {
		right = right && n >= 0 && n <= 767
	}
	return right
}

// P7.1, Decode: each byte of a block, with each value.
func TestDecodeBytes(t *testing.T) {
	b, _ := modelBlock(some())
	for at := range b {
		was := b[at]
		for c := range 256 {
			b[at] = byte(c)
			i := modelInode(b[at/32*32 : at/32*32+32])
			if modelFormed(i) && (at%32 < 28 || c == 0) {
				holds(t, placed(at/32, i))
			} else {
				undecoded(t, b)
			}
		}
		b[at] = was
	}
}

// P7.1, Decode: numbers at each limit and just beyond it, and a free inode that has something, written out in their bytes.
func TestDecodeLimits(t *testing.T) {
	for _, c := range []struct {
		start string
		at    int
		bytes string
		good  bool
	}{
		{"\x01", 1, "\xc8", true}, {"\x01", 1, "\xc9", false}, {"\x01", 1, "\xff", false}, {"\x03", 1, "\xc9", false},
		{"\x01", 2, "\x00\x8a", true}, {"\x01", 2, "\x01\x8a", false}, {"\x02", 2, "\x00\x8a", true}, {"\x02", 2, "\x01\x8a", false},
		{"\x01", 2, "\x00\x00\x01", false}, {"\x01", 2, "\x00\x00\x00\x01", false}, {"\x01", 2, "\xff\xff\xff\xff", false}, {"\x01", 2, "\x00\x00\x00\x80", false},
		{"\x03", 2, "\xc8", true}, {"\x03", 2, "\xc9", false}, {"\x03", 2, "\x00\x01", false},
		{"\x01", 6, "\xff\x02", true}, {"\x01", 6, "\x00\x03", false}, {"\x01", 24, "\xff\x02", true}, {"\x01", 24, "\x00\x03", false},
		{"\x02", 26, "\xff\x02", true}, {"\x02", 26, "\x00\x03", false}, {"\x02", 26, "\xff\xff", false}, {"\x03", 14, "\x00\x80", false},
		{"\x00", 1, "\x01", false}, {"\x00", 2, "\x01", false}, {"\x00", 5, "\x01", false}, {"\x00", 6, "\x01", false}, {"\x00", 25, "\x01", false}, {"\x00", 26, "\x01", false},
		{"\x04", 1, "\x00", false}, {"\xff", 1, "\x00", false}, {"\x80", 1, "\x00", false}, {"\x03", 1, "\x00", true}, {"\x00", 1, "\x00", true},
	} {
		for k := range 8 {
			b := make([]byte, 256)
			copy(b[32*k:], c.start)
			copy(b[32*k+c.at:], c.bytes)
			if !c.good {
				undecoded(t, b)
			} else if _, e := Decode(b); e != api.OK {
				t.Errorf("%x: %v", b, e)
			}
		}
	}
	undecoded(t, bytes.Repeat([]byte{255}, 256))
	undecoded(t, bytes.Repeat([]byte{1}, 256))
}

// modelMap says the bytes of a map of any length, and whether each number fits.
func modelMap(list []int) ([]byte, bool) {
	var b []byte
	fits := true
	for _, n := range list {
		fits = fits && n >= 0 && n < 1<<16
		b = append(b, low(n, 2)...)
	}
	return b, fits
}

// mapped tests EncodeMap and DecodeMap there and back on a right list.
func mapped(t *testing.T, list []int) {
	t.Helper()
	before := slices.Clone(list)
	want, _ := modelMap(list)
	if b, e := EncodeMap(list); e != api.OK || !bytes.Equal(b, want) {
		t.Fatalf("EncodeMap(%v): %x, %v", list, b, e)
	}
	if got, e := DecodeMap(want); e != api.OK || !slices.Equal(got, before) || !slices.Equal(list, before) {
		t.Fatalf("DecodeMap: %v, %v, not %v", got, e, before)
	}
}

// unmapped holds that a list has no block of a map, and its bytes, if it has some, are none.
func unmapped(t *testing.T, list []int) {
	t.Helper()
	if b, e := EncodeMap(list); b != nil || e != api.ErrArg {
		t.Fatalf("EncodeMap(%v): %x, %v", list, b, e)
	}
	if b, fits := modelMap(list); fits {
		unread(t, b)
	}
}

// unread holds that b is no block of a map.
func unread(t *testing.T, b []byte) {
	t.Helper()
	if list, e := DecodeMap(b); list != nil || e != api.ErrForm {
		t.Fatalf("DecodeMap(%x): %v, %v", b, list, e)
	}
}

// someMap returns a map with blocks that differ, and holes.
func someMap() []int {
	list := make([]int, 128)
	for k := range list {
		if k%5 != 3 {
			list[k] = 767 - 6*k
		}
	}
	return list
}

// P7.1, EncodeMap and DecodeMap: each number at each place, right ones there and back, the others refused.
func TestMap(t *testing.T) {
	mapped(t, make([]int, 128))
	mapped(t, someMap())
	mapped(t, slices.Repeat([]int{767}, 128))
	for k := range 128 {
		for _, n := range slices.Concat(span(-3, 3), span(250, 260), span(760, 775), []int{1023, 1024, 32767, 32768, 65535}, odd) {
			for _, list := range [][]int{someMap(), make([]int, 128)} {
				list[k] = n
				if n >= 0 && n <= 767 {
					mapped(t, list)
				} else {
					unmapped(t, list)
				}
			}
		}
	}
}

// P7.1, DecodeMap: each number of two bytes.
func TestMapNumbers(t *testing.T) {
	for start := 0; start < 1<<16; start += 128 {
		list := span(start, start+127)
		if start < 768 {
			mapped(t, list)
		} else {
			unmapped(t, list)
		}
	}
	for n := range 1 << 16 {
		list := make([]int, 128)
		list[n%128] = n
		if n < 768 {
			mapped(t, list)
		} else {
			unmapped(t, list)
		}
	}
}

// P7.1, EncodeMap and DecodeMap: bytes written out.
func TestMapWrittenOut(t *testing.T) {
	list := make([]int, 128)
	list[0], list[1], list[3], list[127] = 5, 258, 256, 767
	want := "\x05\x00\x02\x01\x00\x00\x00\x01" + string(make([]byte, 246)) + "\xff\x02"
	if b, e := EncodeMap(list); e != api.OK || string(b) != want {
		t.Errorf("EncodeMap: %x, %v", b, e)
	}
	if got, e := DecodeMap([]byte(want)); e != api.OK || !slices.Equal(got, list) {
		t.Errorf("DecodeMap: %v, %v", got, e)
	}
	for _, end := range []string{"\x00\x03", "\xff\x03", "\xff\xff", "\x00\x80"} {
		unread(t, []byte(want[:254]+end))
		unread(t, []byte(end+want[2:]))
	}
}

// P7.1, EncodeMap and DecodeMap: too few and too many blocks, and bytes of each wrong length.
func TestMapLength(t *testing.T) {
	many := slices.Repeat(someMap(), 3)
	for n := range len(many) {
		if n != 128 {
			unmapped(t, many[:n])
			unmapped(t, make([]int, n))
		}
	}
	b, _ := modelMap(many)
	for length := range len(b) {
		if length != 256 {
			unread(t, b[:length])
			unread(t, make([]byte, length))
		}
	}
	unmapped(t, nil)
	unread(t, nil)
	unread(t, []byte{})
	mapped(t, many[:128])
}

// P7.1, Place: the chapter's example and the edges, written out, and all numbers of inodes.
func TestPlace(t *testing.T) {
	for _, c := range []struct{ ino, block, index int }{
		{9, 1, 1}, {1, 0, 1}, {7, 0, 7}, {8, 1, 0}, {15, 1, 7}, {16, 2, 0}, {40, 5, 0}, {47, 5, 7},
		{0, -1, -1}, {48, -1, -1}, {49, -1, -1}, {-1, -1, -1}, {-8, -1, -1}, {-9, -1, -1},
	} {
		if b, k := Place(c.ino); b != c.block || k != c.index {
			t.Errorf("Place(%d): %d, %d", c.ino, b, k)
		}
	}
	ino := 0
	for block := range 6 {
		for index := range 8 {
			if b, k := Place(ino); ino > 0 && (b != block || k != index) {
				t.Errorf("Place(%d): %d, %d", ino, b, k)
			}
			ino++
		}
	}
}

// P7.1, Place: no place for numbers that no inode has.
func TestPlaceNone(t *testing.T) {
	for _, ino := range slices.Concat(span(-1000, 0), span(48, 5000), odd) {
		if b, k := Place(ino); b != -1 || k != -1 {
			t.Errorf("Place(%d): %d, %d", ino, b, k)
		}
	}
}

// fill overwrites b with its room to spare.
func fill(b []byte) {
	b = b[:cap(b)]
	for i := range b {
		b[i] ^= 255
	}
}

// R3: what Encode and Decode return is new memory, and what they are given stays as it is, with what lies behind it.
func TestNoSharing(t *testing.T) {
	long := append(some(), Inode{Kind: 1, Size: 7})
	before := slices.Clone(long)
	b, _ := Encode(long[:8])
	again, _ := Encode(long[:8])
	fill(b)
	want, _ := modelBlock(before[:8])
	if !slices.Equal(long, before) || !bytes.Equal(again, want) {
		t.Errorf("Encode changes its argument, or shares: %x", again)
	}
	clear(long)
	if !bytes.Equal(again, want) {
		t.Errorf("Encode keeps its argument: %x", again)
	}
	all := slices.Concat(again, []byte("spare"))
	got, _ := Decode(all[:256])
	other, _ := Decode(all[:256])
	if string(all[256:]) != "spare" || !bytes.Equal(all[:256], want) {
		t.Errorf("Decode changes its argument: %x", all)
	}
	clear(all)
	clear(other[:cap(other)])
	if !slices.Equal(got, before[:8]) {
		t.Errorf("Decode keeps its argument, or shares: %+v", got)
	}
}

// R3: what EncodeMap and DecodeMap return is new memory, and what they are given stays as it is, with what lies behind it.
func TestMapNoSharing(t *testing.T) {
	long := append(someMap(), 77)
	before := slices.Clone(long)
	b, _ := EncodeMap(long[:128])
	again, _ := EncodeMap(long[:128])
	fill(b)
	want, _ := modelMap(before[:128])
	if !slices.Equal(long, before) || !bytes.Equal(again, want) {
		t.Errorf("EncodeMap changes its argument, or shares: %x", again)
	}
	clear(long)
	if !bytes.Equal(again, want) {
		t.Errorf("EncodeMap keeps its argument: %x", again)
	}
	all := slices.Concat(again, []byte("spare"))
	got, _ := DecodeMap(all[:256])
	other, _ := DecodeMap(all[:256])
	if string(all[256:]) != "spare" || !bytes.Equal(all[:256], want) {
		t.Errorf("DecodeMap changes its argument: %x", all)
	}
	clear(all)
	clear(other[:cap(other)])
	if !slices.Equal(got, before[:128]) {
		t.Errorf("DecodeMap keeps its argument, or shares: %v", got)
	}
}

// R3: a call that refuses its argument leaves it as it is, too.
func TestRefusedUnchanged(t *testing.T) {
	list := placed(3, Inode{Kind: 4})
	blocks := someMap()
	blocks[99] = 768
	b := bytes.Repeat([]byte{255}, 256)
	refused(t, list)
	unmapped(t, blocks)
	undecoded(t, b)
	unread(t, b)
	want := someMap()
	want[99] = 768
	if !slices.Equal(list, placed(3, Inode{Kind: 4})) || !slices.Equal(blocks, want) || !bytes.Equal(b, bytes.Repeat([]byte{255}, 256)) {
		t.Error("a refused argument is changed")
	}
}

// R2: the same call answers the same, whatever was called between.
func TestSameAgain(t *testing.T) {
	for range 3 {
		holds(t, some())
		mapped(t, someMap())
		refused(t, placed(0, Inode{Kind: 4}))
		unmapped(t, nil)
		undecoded(t, nil)
		unread(t, nil)
		holds(t, make([]Inode, 8))
		mapped(t, make([]int, 128))
		if b, k := Place(17); b != 2 || k != 1 {
			t.Errorf("Place(17): %d, %d", b, k)
		}
	}
}
