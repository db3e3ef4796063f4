package pack

import (
	"bytes"
	"hash/fnv"
	"math"
	"slices"
	"testing"

	"ashlar/api"
)

// odd holds numbers that are no size and no offset of anything, so that sums with them wrap round, and cut to fewer bits they look like small ones.
var odd = []int{
	math.MinInt, math.MinInt + 1, math.MinInt + 8, -1 << 32, -256, -9, -8, -4, -2, -1,
	256, 257, 264, 1 << 16, 1<<32 + 1, 1<<32 + 8, math.MaxInt - 8, math.MaxInt - 7, math.MaxInt - 1, math.MaxInt,
}

// numbers holds integers about the ends of each number of bytes, and some whose bytes all differ.
func numbers() []uint64 {
	all := []uint64{0x0102030405060708, 0xf1e2d3c4b5a69788, 0x8081828384858687}
	end := uint64(1)
	for range 64 {
		all = append(all, end-1, end, end+1)
		end *= 2
	}
	return append(all, math.MaxUint64)
}

// modelBytes says the chapter's words by division: the lowest size bytes of n, little-endian.
func modelBytes(n uint64, size int) []byte {
	b := []byte{}
	for i := 0; i < size; i++ {
		b = append(b, byte(n%256))
		n /= 256
	}
	return b
}

// modelNumber adds the values of an integer's bytes.
func modelNumber(b []byte) uint64 {
	n, value := uint64(0), uint64(1)
	for _, c := range b {
		n += uint64(c) * value
		value *= 256
	}
	return n
}

func modelSum(b []byte) uint32 {
	h := fnv.New32a()
	h.Write(b)
	return h.Sum32()
}

// modelSeal lays a sealed block of any length, to have blocks whose length alone is wrong.
func modelSeal(content []byte, length int) []byte {
	b := make([]byte, length)
	copy(b[:length-4], content)
	copy(b[length-4:], modelBytes(uint64(modelSum(b[:length-4])), 4))
	return b
}

// some returns length bytes that differ from their neighbours and are seldom 0.
func some(length int) []byte {
	b := make([]byte, length)
	for i := range b {
		b[i] = byte(i*37 + 1)
	}
	return b
}

// P2.1: Put appends the lowest bytes to whatever is there.
func TestPut(t *testing.T) {
	for _, before := range [][]byte{nil, {}, {0}, {255}, some(7), some(300)} {
		for _, n := range numbers() {
			for size := 1; size <= 8; size++ {
				want := slices.Concat(before, modelBytes(n, size))
				if b := Put(before, n, size); !bytes.Equal(b, want) {
					t.Fatalf("Put(%x, %x, %d): %x", before, n, size, b)
				}
			}
		}
	}
}

// P2.1: the chapter's example, and the ends of the sizes, written out.
func TestPutWrittenOut(t *testing.T) {
	for _, c := range []struct {
		b    string
		n    uint64
		size int
		want string
	}{
		{"", 258, 2, "\x02\x01"}, {"", 258, 1, "\x02"}, {"", 258, 3, "\x02\x01\x00"},
		{"", 0, 1, "\x00"}, {"", 255, 1, "\xff"}, {"", 256, 1, "\x00"},
		{"x", 0x0102030405060708, 8, "x\x08\x07\x06\x05\x04\x03\x02\x01"},
		{"x", 0x0102030405060708, 7, "x\x08\x07\x06\x05\x04\x03\x02"},
		{"", 1 << 63, 8, "\x00\x00\x00\x00\x00\x00\x00\x80"},
		{"", math.MaxUint64, 8, "\xff\xff\xff\xff\xff\xff\xff\xff"},
		{"xy", 258, 0, "xy"}, {"xy", 258, 9, "xy"}, {"", 258, 0, ""}, {"", 258, 9, ""},
	} {
		if b := Put([]byte(c.b), c.n, c.size); string(b) != c.want {
			t.Errorf("Put(%q, %x, %d): %x", c.b, c.n, c.size, b)
		}
	}
}

// P2.1: nothing is appended by a size that is none.
func TestPutWrong(t *testing.T) {
	for _, size := range append([]int{0, 9, 10, 16}, odd...) {
		for _, before := range []string{"", "x", "xyz"} {
			if b := Put([]byte(before), math.MaxUint64, size); string(b) != before {
				t.Errorf("Put(%q, .., %d): %x", before, size, b)
			}
		}
		if b := Put(nil, 1, size); len(b) != 0 {
			t.Errorf("Put(nil, 1, %d): %x", size, b)
		}
	}
}

// P2.1: Get at all offsets and sizes about bytes of all lengths, the last that fit and the first that do not among them.
func TestGet(t *testing.T) {
	for length := range 19 {
		b := some(length)
		for at := -10; at <= length+10; at++ {
			for size := -2; size <= 11; size++ {
				want, wantOK := uint64(0), false
				if at >= 0 && at+size <= length && size >= 1 && size <= 8 {
					want, wantOK = modelNumber(b[at:at+size]), true
				}
				if n, ok := Get(b, at, size); n != want || ok != wantOK {
					t.Fatalf("Get(%x, %d, %d): %x, %v", b, at, size, n, ok)
				}
			}
		}
	}
}

// P2.1: Get, written out.
func TestGetWrittenOut(t *testing.T) {
	for _, c := range []struct {
		b        string
		at, size int
		n        uint64
		ok       bool
	}{
		{"\x02\x01", 0, 2, 258, true}, {"\x02\x01", 0, 1, 2, true}, {"\x02\x01", 1, 1, 1, true},
		{"\x02\x01", 2, 1, 0, false}, {"\x02\x01", 1, 2, 0, false}, {"\x02\x01", 0, 3, 0, false},
		{"abc", 1, 2, 'b' + 'c'*256, true}, {"abc", 0, 3, 0x636261, true}, {"abc", -1, 2, 0, false},
		{"\x08\x07\x06\x05\x04\x03\x02\x01", 0, 8, 0x0102030405060708, true},
		{"\x08\x07\x06\x05\x04\x03\x02\x01", 1, 7, 0x01020304050607, true},
		{"\x08\x07\x06\x05\x04\x03\x02\x01", 1, 8, 0, false},
		{"\x08\x07\x06\x05\x04\x03\x02\x01\x00", 0, 9, 0, false},
		{"\x00\x00\x00\x00\x00\x00\x00\x80", 0, 8, 1 << 63, true},
		{"\xff\xff\xff\xff\xff\xff\xff\xff", 0, 8, math.MaxUint64, true},
		{"abc", 0, 0, 0, false}, {"abc", 3, 0, 0, false}, {"", 0, 1, 0, false}, {"", 0, 0, 0, false},
	} {
		if n, ok := Get([]byte(c.b), c.at, c.size); n != c.n || ok != c.ok {
			t.Errorf("Get(%q, %d, %d): %x, %v", c.b, c.at, c.size, n, ok)
		}
	}
}

// P2.1: Get with numbers that are no size and no offset, alone and together.
func TestGetWrong(t *testing.T) {
	for _, b := range [][]byte{nil, {}, {7}, some(16)} {
		for _, wrong := range odd {
			for _, right := range append([]int{0, 1, 4, 8, 9}, odd...) {
				if n, ok := Get(b, wrong, right); n != 0 || ok {
					t.Errorf("Get(%x, %d, %d): %x, %v", b, wrong, right, n, ok)
				}
				if n, ok := Get(b, right, wrong); n != 0 || ok {
					t.Errorf("Get(%x, %d, %d): %x, %v", b, right, wrong, n, ok)
				}
			}
		}
	}
}

// P2.1: bytes in the spare capacity do not exist.
func TestGetSpare(t *testing.T) {
	b := some(16)[:3]
	if n, ok := Get(b, 3, 1); n != 0 || ok {
		t.Error(n, ok)
	}
	if n, ok := Get(b, 0, 4); n != 0 || ok {
		t.Error(n, ok)
	}
}

// P2.1: what Put wrote is what Get reads, cut to the size.
func TestPutGet(t *testing.T) {
	for _, n := range numbers() {
		for size := 1; size <= 8; size++ {
			b := Put(Put(some(5), n, size), 77, 1)
			if got, ok := Get(b, 5, size); !ok || got != modelNumber(modelBytes(n, size)) {
				t.Errorf("%x in %d bytes: %x, %v", n, size, got, ok)
			}
			if got, ok := Get(b, 5+size, 1); !ok || got != 77 {
				t.Errorf("after %d bytes: %x, %v", size, got, ok)
			}
		}
	}
}

// P2.1: the checksums of the chapter's example and of texts known with the hash.
func TestSumWrittenOut(t *testing.T) {
	for s, want := range map[string]uint32{
		"": 2166136261, "a": 0xe40c292c, "b": 0xe70c2de5, "\x00": 0x050c5d1f, "foobar": 0xbf9cf968, "hello": 0x4f9f2cab,
	} {
		if sum := Sum([]byte(s)); sum != want {
			t.Errorf("Sum(%q): %x", s, sum)
		}
	}
	if Sum(nil) != 2166136261 {
		t.Error("Sum(nil)")
	}
}

// P2.1: the checksum of each byte alone, and of bytes of all lengths up to some blocks.
func TestSum(t *testing.T) {
	for c := range 256 {
		if b := []byte{byte(c)}; Sum(b) != modelSum(b) {
			t.Errorf("Sum(%x): %x", b, Sum(b))
		}
	}
	for length := range 1000 {
		for _, b := range [][]byte{some(length), make([]byte, length), bytes.Repeat([]byte{255}, length)} {
			if Sum(b) != modelSum(b) {
				t.Fatalf("%d bytes: %x", length, Sum(b))
			}
		}
	}
}

// P2.2: contents of all lengths that fit, from none to 252 bytes, are sealed and opened.
func TestSealOpen(t *testing.T) {
	for length := range 253 {
		for _, content := range [][]byte{some(length), make([]byte, length), bytes.Repeat([]byte{255}, length)} {
			block, e := Seal(content)
			if e != api.OK || !bytes.Equal(block, modelSeal(content, 256)) {
				t.Fatalf("Seal(%d bytes): %x, %v", length, block, e)
			}
			want := make([]byte, 252)
			copy(want, content)
			if got, ok := Open(block); !ok || !bytes.Equal(got, want) {
				t.Fatalf("Open, %d bytes: %x, %v", length, got, ok)
			}
		}
	}
}

// P2.2: no content at all is a block of zeros with their checksum.
func TestSealNothing(t *testing.T) {
	for _, nothing := range [][]byte{nil, {}} {
		block, e := Seal(nothing)
		if e != api.OK || len(block) != 256 || !bytes.Equal(block[:252], make([]byte, 252)) {
			t.Fatalf("%x, %v", block, e)
		}
		if !bytes.Equal(block[252:], modelBytes(uint64(modelSum(make([]byte, 252))), 4)) {
			t.Errorf("%x", block[252:])
		}
	}
}

// P2.2: too much content, be it zeros.
func TestSealWrong(t *testing.T) {
	for _, length := range []int{253, 254, 255, 256, 257, 508, 512, 1 << 16} {
		for _, content := range [][]byte{some(length), make([]byte, length)} {
			if block, e := Seal(content); block != nil || e != api.ErrArg {
				t.Errorf("Seal(%d bytes): %x, %v", length, block, e)
			}
		}
	}
}

// P2.2: a block with one byte turned, in any way, is not sealed: in the content, in the zeros after it, in the checksum.
func TestOpenTurned(t *testing.T) {
	for _, length := range []int{0, 5, 252} {
		block := modelSeal(some(length), 256)
		for i := range block {
			was := block[i]
			for turn := 1; turn < 256; turn++ {
				block[i] = was ^ byte(turn)
				if content, ok := Open(block); content != nil || ok {
					t.Fatalf("content of %d bytes, byte %d turned by %x", length, i, turn)
				}
			}
			block[i] = was
		}
		if _, ok := Open(block); !ok {
			t.Error("turned back", length)
		}
	}
}

// P2.2: blocks that are too short or too long, though their last bytes, or the first 256 of them, are right.
func TestOpenLength(t *testing.T) {
	for length := range 520 {
		if length == 256 {
			continue
		}
		blocks := [][]byte{make([]byte, length), slices.Concat(modelSeal(some(5), 256), some(300))[:length]}
		if length >= 4 {
			blocks = append(blocks, modelSeal(nil, length), modelSeal(some(5), length))
		}
		for i, block := range blocks {
			if content, ok := Open(block); content != nil || ok {
				t.Errorf("%d bytes, block %d", length, i)
			}
		}
	}
	if content, ok := Open(nil); content != nil || ok {
		t.Error("nil")
	}
}

// P2.2: blocks of the right length whose checksum is of something else, or laid otherwise.
func TestOpenWrongSum(t *testing.T) {
	right := modelSeal(some(5), 256)
	turned := slices.Clone(right)
	slices.Reverse(turned[252:])
	bare := slices.Clone(right)
	copy(bare[252:], modelBytes(uint64(modelSum(some(5))), 4))
	whole := slices.Clone(right)
	copy(whole[252:], modelBytes(uint64(modelSum(make([]byte, 256))), 4))
	first := slices.Concat(right[252:], right[:252])
	for i, block := range [][]byte{make([]byte, 256), bytes.Repeat([]byte{255}, 256), some(256), turned, bare, whole, first} {
		if content, ok := Open(block); content != nil || ok {
			t.Error(i)
		}
	}
}

// P2.2: a block that was not made by Seal is sealed if it has the checksum.
func TestOpenAnyContent(t *testing.T) {
	for c := range 256 {
		content := bytes.Repeat([]byte{byte(c)}, 252)
		if got, ok := Open(modelSeal(content, 256)); !ok || !bytes.Equal(got, content) {
			t.Errorf("%x: %x, %v", c, got, ok)
		}
	}
}

// untouched hands call the first length of some bytes and holds that neither they nor the spare ones behind them are changed, nor shared with what call returned.
func untouched(t *testing.T, name string, all []byte, length int, call func(b []byte) []byte) {
	t.Helper()
	before := slices.Clone(all)
	told := call(all[:length])
	if !bytes.Equal(all, before) {
		t.Errorf("%s changes its argument", name)
	}
	was := slices.Clone(told)
	again := call(all[:length])
	for i := range all {
		all[i] ^= 255
	}
	if !bytes.Equal(told, was) {
		t.Errorf("%s keeps its argument's memory", name)
	}
	copy(all, before)
	full := told[:cap(told)]
	for i := range full {
		full[i] ^= 255
	}
	if !bytes.Equal(all, before) {
		t.Errorf("%s returns its argument's memory", name)
	}
	if !bytes.Equal(again, was) {
		t.Errorf("two results of %s share their memory", name)
	}
}

// R3: arguments are left unchanged, and results are new memory.
func TestNoSharing(t *testing.T) {
	for _, size := range []int{-1, 0, 1, 8, 9} {
		for length := range 20 {
			untouched(t, "Put", some(20), length, func(b []byte) []byte { return Put(b, 258, size) })
		}
	}
	for _, length := range []int{0, 1, 251, 252, 253} {
		untouched(t, "Seal", some(300), length, func(b []byte) []byte {
			block, _ := Seal(b)
			return block
		})
	}
	for _, length := range []int{0, 255, 256, 257} {
		all := append(modelSeal(some(5), 256), some(20)...)
		untouched(t, "Open", all, length, func(b []byte) []byte {
			content, _ := Open(b)
			return content
		})
	}
	untouched(t, "Get", some(20), 8, func(b []byte) []byte {
		Get(b, 0, 8)
		return nil
	})
	untouched(t, "Sum", some(20), 8, func(b []byte) []byte {
		Sum(b)
		return nil
	})
}

// R2: the same call answers the same, whatever was called between.
func TestSameAgain(t *testing.T) {
	block, _ := Seal(some(9))
	Seal(some(100))
	Seal(some(253))
	Put(some(100), 77, 8)
	Open(some(256))
	if again, e := Seal(some(9)); e != api.OK || !bytes.Equal(again, block) {
		t.Errorf("%x, %v", again, e)
	}
}
