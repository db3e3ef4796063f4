package super

import (
	"bytes"
	"hash/fnv"
	"math"
	"slices"
	"testing"

	"ashlar/api"
)

// odd holds numbers that no field of a superblock has, also such that are right ones when cut to two bytes or to one.
var odd = []int{
	math.MinInt, math.MinInt + 1, math.MinInt + 64, -1 << 32, -1<<32 + 64, -1 << 31, -1<<16 + 192, -1 << 16, -65535,
	-768, -256, -255, -192, -128, -64, -63, -2, -1,
	1 << 16, 1<<16 + 1, 1<<16 + 2, 1<<16 + 3, 1<<16 + 43, 1<<16 + 60, 1<<16 + 64, 1<<16 + 128, 1<<16 + 192,
	1<<31 - 1, 1 << 31, 1 << 32, 1<<32 + 1, 1<<32 + 2, 1<<32 + 64, 1<<32 + 128, 1<<32 + 192,
	math.MaxInt - 63, math.MaxInt - 1, math.MaxInt,
}

// sizes holds each valid size, written out.
var sizes = []int{64, 128, 192, 256, 320, 384, 448, 512, 576, 640, 704, 768}

// first is a table that the smallest file system can have.
var first = [6]int{43, 44, 45, 46, 47, 48}

// values holds the integers of s in the order of the chapter.
func values(s Super) []int {
	return append([]int{s.Blocks, s.State, s.Target, s.Cursor, s.Ino, s.Base}, s.Table[:]...)
}

// modelContent says the chapter's bytes by division, and whether each integer fits into its own.
func modelContent(s Super) (string, bool) {
	b, fits := "ashlar 1", true
	for i, n := range values(s) {
		if i == 1 {
			fits = fits && n >= 0 && n < 256
			b += string([]byte{byte(n & 255)})
			continue
		}
		fits = fits && n >= 0 && n < 65536
		b += string([]byte{byte(n & 255), byte(n >> 8 & 255)})
	}
	return b, fits
}

// modelSeal lays a sealed block of any length, to have blocks whose length alone is wrong.
func modelSeal(content string, length int) []byte {
	b := make([]byte, length)
	copy(b[:length-4], content)
	h := fnv.New32a()
	h.Write(b[:length-4])
	n := h.Sum32()
	copy(b[length-4:], []byte{byte(n), byte(n >> 8), byte(n >> 16), byte(n >> 24)})
	return b
}

// holds tests all four functions on a well-formed superblock.
func holds(t *testing.T, s Super, limit int) {
	t.Helper()
	if !Formed(s) || Limit(s) != limit {
		t.Fatalf("%+v: %v, limit %d, not %d", s, Formed(s), Limit(s), limit)
	}
	content, _ := modelContent(s)
	want := modelSeal(content, 256)
	if b, e := Encode(s); e != api.OK || !bytes.Equal(b, want) {
		t.Fatalf("Encode(%+v): %x, %v", s, b, e)
	}
	if got, e := Decode(want); e != api.OK || got != s {
		t.Fatalf("Decode: %+v, %v, not %+v", got, e, s)
	}
}

// refused tests all four functions on one that is not well formed.
func refused(t *testing.T, s Super) {
	t.Helper()
	if Formed(s) || Limit(s) != 0 {
		t.Fatalf("%+v: %v, limit %d", s, Formed(s), Limit(s))
	}
	if b, e := Encode(s); b != nil || e != api.ErrArg {
		t.Fatalf("Encode(%+v): %x, %v", s, b, e)
	}
	if content, fits := modelContent(s); fits {
		undecoded(t, modelSeal(content, 256))
	}
}

// undecoded holds that b is no superblock's block.
func undecoded(t *testing.T, b []byte) {
	t.Helper()
	if s, e := Decode(b); s != (Super{}) || e != api.ErrForm {
		t.Fatalf("Decode(%x): %+v, %v", b, s, e)
	}
}

// tests hands each number to turn, and holds that exactly those of good make a superblock with that limit.
func tests(t *testing.T, numbers, good []int, limit int, turn func(n int) Super) {
	t.Helper()
	for _, n := range numbers {
		if slices.Contains(good, n) {
			holds(t, turn(n), limit)
		} else {
			refused(t, turn(n))
		}
	}
}

// about holds the numbers from far below 0 to far beyond the greatest file system, and the odd ones.
func about() []int {
	return append(span(-200, 1200), odd...)
}

func span(least, most int) []int {
	var all []int
	for n := least; n <= most; n++ {
		all = append(all, n)
	}
	return all
}

// one returns a superblock of each state, of a file system of three groups, whose numbers all differ.
func one() []Super {
	s := Super{Blocks: 192, Table: [6]int{191, 43, 66, 62, 127, 130}}
	grown, shrunk, tidied := s, s, s
	grown.State, grown.Target, grown.Cursor = 1, 512, 5
	shrunk.State, shrunk.Target = 2, 128
	tidied.State, tidied.Ino, tidied.Base, tidied.Cursor = 3, 47, 131, 17
	return []Super{s, grown, shrunk, tidied}
}

// limits holds the limits of those.
var limits = []int{192, 192, 128, 192}

// P5.1: the chapter's example, and a superblock of each state, with their bytes written out.
func TestWrittenOut(t *testing.T) {
	for _, c := range []struct {
		s     Super
		limit int
		bytes string
	}{
		{Super{Blocks: 64, Table: first}, 64,
			"ashlar 1\x40\x00\x00\x00\x00\x00\x00\x00\x00\x00\x00\x2b\x00\x2c\x00\x2d\x00\x2e\x00\x2f\x00\x30\x00"},
		{Super{Blocks: 256, State: 1, Target: 768, Cursor: 7, Table: [6]int{255, 254, 60, 61, 62, 66}}, 256,
			"ashlar 1\x00\x01\x01\x00\x03\x07\x00\x00\x00\x00\x00\xff\x00\xfe\x00\x3c\x00\x3d\x00\x3e\x00\x42\x00"},
		{Super{Blocks: 704, State: 2, Target: 320, Table: [6]int{703, 258, 43, 44, 45, 46}}, 320,
			"ashlar 1\xc0\x02\x02\x40\x01\x00\x00\x00\x00\x00\x00\xbf\x02\x02\x01\x2b\x00\x2c\x00\x2d\x00\x2e\x00"},
		{Super{Blocks: 768, State: 3, Cursor: 513, Ino: 31, Base: 514, Table: first}, 768,
			"ashlar 1\x00\x03\x03\x00\x00\x01\x02\x1f\x00\x02\x02\x2b\x00\x2c\x00\x2d\x00\x2e\x00\x2f\x00\x30\x00"},
	} {
		holds(t, c.s, c.limit)
		b, e := Encode(c.s)
		if e != api.OK || !bytes.Equal(b, modelSeal(c.bytes, 256)) {
			t.Errorf("%+v: %x, %v", c.s, b, e)
		}
	}
}

// P5.1: the superblocks of each state on which the other tests turn single numbers.
func TestOne(t *testing.T) {
	for i, s := range one() {
		holds(t, s, limits[i])
	}
	refused(t, Super{})
}

// P5.1, the state: no other number than 0 to 3, whatever else is right.
func TestState(t *testing.T) {
	for state, s := range one() {
		tests(t, about(), []int{state}, limits[state], func(n int) Super {
			s.State = n
			return s
		})
	}
}

// P5.1, the size: in state 0 each valid one and no other number; a table of the first group fits into all.
func TestBlocks(t *testing.T) {
	for _, n := range about() {
		s := Super{Blocks: n, Table: first}
		if slices.Contains(sizes, n) {
			holds(t, s, n)
		} else {
			refused(t, s)
		}
	}
}

// P5.1, the size: in the other states, too, with what belongs to the state right for any size.
func TestBlocksOfStates(t *testing.T) {
	for _, n := range about() {
		valid := slices.Contains(sizes, n)
		grown := Super{Blocks: n, State: 1, Target: 768, Cursor: 12, Table: first}
		shrunk := Super{Blocks: n, State: 2, Target: 64, Table: first}
		tidied := Super{Blocks: n, State: 3, Ino: 1, Table: first}
		for _, c := range []struct {
			s     Super
			good  bool
			limit int
		}{{grown, valid && n < 768, n}, {shrunk, valid && n > 64, 64}, {tidied, valid, n}} {
			if c.good {
				holds(t, c.s, c.limit)
			} else {
				refused(t, c.s)
			}
		}
	}
}

// P5.1, state 0: the four other numbers are 0.
func TestStateNone(t *testing.T) {
	for _, blocks := range []int{64, 128, 768} {
		s := Super{Blocks: blocks, Table: first}
		tests(t, about(), []int{0}, blocks, func(n int) Super { return with(s, n, s.Cursor, s.Ino, s.Base) })
		tests(t, about(), []int{0}, blocks, func(n int) Super { return with(s, s.Target, n, s.Ino, s.Base) })
		tests(t, about(), []int{0}, blocks, func(n int) Super { return with(s, s.Target, s.Cursor, n, s.Base) })
		tests(t, about(), []int{0}, blocks, func(n int) Super { return with(s, s.Target, s.Cursor, s.Ino, n) })
	}
}

func with(s Super, target, cursor, ino, base int) Super {
	s.Target, s.Cursor, s.Ino, s.Base = target, cursor, ino, base
	return s
}

// P5.1, state 1: all targets for each size; only a greater valid size is one.
func TestGrowTarget(t *testing.T) {
	for i, blocks := range sizes {
		for _, target := range about() {
			at := slices.Index(sizes, target)
			// Where there is no such size, the cursor is right for some other one.
			s := Super{Blocks: blocks, State: 1, Target: target, Cursor: max(at, i) + 1, Table: first}
			if at > i {
				holds(t, s, blocks)
			} else {
				refused(t, s)
			}
		}
	}
}

// P5.1, state 1: the cursor, from the first new group to just after the last one.
func TestGrowCursor(t *testing.T) {
	for i, blocks := range sizes {
		for j := i + 1; j < len(sizes); j++ {
			s := Super{Blocks: blocks, State: 1, Target: sizes[j], Table: first}
			numbers := append(span(-3, 70), odd...)
			tests(t, numbers, span(i+1, j+1), blocks, func(n int) Super { return with(s, s.Target, n, 0, 0) })
		}
	}
}

// P5.1, state 1: the edges of the cursor, written out, and the other numbers, which are 0.
func TestGrowEdges(t *testing.T) {
	for _, c := range []struct{ blocks, target, least, most int }{
		{64, 128, 1, 2}, {64, 192, 1, 3}, {64, 768, 1, 12}, {128, 192, 2, 3}, {640, 768, 10, 12}, {704, 768, 11, 12},
	} {
		s := Super{Blocks: c.blocks, State: 1, Target: c.target, Cursor: c.least, Table: first}
		tests(t, []int{0, c.least - 1, c.least, c.most, c.most + 1}, []int{c.least, c.most}, c.blocks, func(n int) Super {
			return with(s, s.Target, n, 0, 0)
		})
		tests(t, about(), []int{0}, c.blocks, func(n int) Super { return with(s, s.Target, s.Cursor, n, 0) })
		tests(t, about(), []int{0}, c.blocks, func(n int) Super { return with(s, s.Target, s.Cursor, 0, n) })
	}
}

// P5.1, state 2: all targets for each size; only a smaller valid size is one, and the limit.
func TestShrinkTarget(t *testing.T) {
	for i, blocks := range sizes {
		for _, target := range about() {
			s := Super{Blocks: blocks, State: 2, Target: target, Table: first}
			if at := slices.Index(sizes, target); at >= 0 && at < i {
				holds(t, s, target)
			} else {
				refused(t, s)
			}
		}
	}
}

// P5.1, state 2: the other numbers are 0.
func TestShrinkZeros(t *testing.T) {
	for _, c := range []struct{ blocks, target int }{{128, 64}, {768, 64}, {768, 704}} {
		s := Super{Blocks: c.blocks, State: 2, Target: c.target, Table: first}
		tests(t, about(), []int{0}, c.target, func(n int) Super { return with(s, s.Target, n, 0, 0) })
		tests(t, about(), []int{0}, c.target, func(n int) Super { return with(s, s.Target, 0, n, 0) })
		tests(t, about(), []int{0}, c.target, func(n int) Super { return with(s, s.Target, 0, 0, n) })
	}
}

// P5.1, state 3: the inode's number from 1 to 47, base and cursor from 0 to the size, and no target.
func TestTidy(t *testing.T) {
	for _, blocks := range sizes {
		s := Super{Blocks: blocks, State: 3, Ino: 5, Base: 50, Cursor: 2, Table: first}
		tests(t, about(), []int{0}, blocks, func(n int) Super { return with(s, n, s.Cursor, s.Ino, s.Base) })
		tests(t, about(), span(0, blocks), blocks, func(n int) Super { return with(s, 0, n, s.Ino, s.Base) })
		tests(t, about(), span(1, 47), blocks, func(n int) Super { return with(s, 0, s.Cursor, n, s.Base) })
		tests(t, about(), span(0, blocks), blocks, func(n int) Super { return with(s, 0, s.Cursor, s.Ino, n) })
	}
}

// P5.1, state 3: the edges written out, and together, as base and cursor may add up to more than there is.
func TestTidyEdges(t *testing.T) {
	for _, c := range []struct {
		blocks, cursor, ino, base int
		good                      bool
	}{
		{64, 0, 1, 0, true}, {64, 64, 47, 64, true}, {64, 0, 0, 0, false}, {64, 0, 48, 0, false},
		{64, 65, 1, 0, false}, {64, 0, 1, 65, false}, {64, -1, 1, 0, false}, {64, 0, 1, -1, false}, {64, 0, -1, 0, false},
		{768, 768, 47, 768, true}, {768, 769, 47, 768, false}, {768, 768, 47, 769, false}, {768, 768, 48, 768, false},
	} {
		s := with(Super{Blocks: c.blocks, State: 3, Table: first}, 0, c.cursor, c.ino, c.base)
		if c.good {
			holds(t, s, c.blocks)
		} else {
			refused(t, s)
		}
	}
}

// open says the document's words of a single block: below blocks, and not one of the layout's own.
func open(n, blocks int) bool {
	if n < 0 || n >= blocks {
		return false
	}
	if n < 64 {
		return n >= 43 && n <= 62
	}
	return n%64 >= 2
}

// P5.1, the table: in each of its places all numbers, for some sizes; open blocks that are not in another place are right.
func TestTable(t *testing.T) {
	for _, blocks := range []int{64, 128, 320, 768} {
		for i := range 6 {
			s := Super{Blocks: blocks, Table: first}
			for _, n := range about() {
				s.Table[i] = n
				again := slices.Index(first[:], n)
				if open(n, blocks) && (again == i || again < 0) {
					holds(t, s, blocks)
				} else {
					refused(t, s)
				}
			}
		}
	}
}

// P5.1, the table: fixed blocks, the last one of the file system, and the one just after it, written out.
func TestTableEdges(t *testing.T) {
	for _, c := range []struct {
		blocks int
		good   []int
		bad    []int
	}{
		{64, []int{49, 61, 62}, []int{-1, 0, 1, 2, 3, 42, 63, 64, 65, 66, 127, 768}},
		{128, []int{49, 62, 66, 127}, []int{63, 64, 65, 128, 129, 130, 191}},
		{704, []int{66, 703}, []int{640, 641, 704, 705, 706, 767}},
		{768, []int{703, 706, 767}, []int{704, 705, 768, 769, 770, 832, 834}},
	} {
		for i := range 6 {
			s := Super{Blocks: c.blocks, Table: first}
			tests(t, slices.Concat(c.good, c.bad), c.good, c.blocks, func(n int) Super {
				s.Table[i] = n
				return s
			})
		}
	}
}

// P5.1, the table: a block that is in two places, whichever they are, with all in any order.
func TestTableTwice(t *testing.T) {
	for _, s := range one() {
		for i := range 6 {
			for j := range 6 {
				if i == j {
					continue
				}
				twice := s
				twice.Table[i] = s.Table[j]
				refused(t, twice)
			}
		}
	}
	falling := Super{Blocks: 64, Table: [6]int{62, 61, 60, 59, 58, 57}}
	holds(t, falling, 64)
	same := Super{Blocks: 64, Table: [6]int{50, 50, 50, 50, 50, 50}}
	refused(t, same)
}

// P5.1, the table: its blocks are below the size also while it grows, and may lie beyond the limit while it shrinks.
func TestTableOfStates(t *testing.T) {
	grown := Super{Blocks: 64, State: 1, Target: 192, Cursor: 1, Table: first}
	shrunk := Super{Blocks: 192, State: 2, Target: 64, Table: first}
	tidied := Super{Blocks: 128, State: 3, Ino: 1, Table: first}
	for _, n := range append([]int{49, 62, 63, 64, 65, 66, 127, 128, 130, 190, 191, 192, 194}, odd...) {
		for _, c := range []struct {
			s     Super
			limit int
		}{{grown, 64}, {shrunk, 64}, {tidied, 128}} {
			c.s.Table[2] = n
			if open(n, c.s.Blocks) {
				holds(t, c.s, c.limit)
			} else {
				refused(t, c.s)
			}
		}
	}
}

// P5.1: negative numbers and the greatest int in each field of a superblock of each state.
func TestOdd(t *testing.T) {
	for _, n := range odd {
		for _, s := range one() {
			for i := range values(s) {
				wrong := s
				places := []*int{&wrong.Blocks, &wrong.State, &wrong.Target, &wrong.Cursor, &wrong.Ino, &wrong.Base,
					&wrong.Table[0], &wrong.Table[1], &wrong.Table[2], &wrong.Table[3], &wrong.Table[4], &wrong.Table[5]}
				*places[i] = n
				refused(t, wrong)
			}
		}
		refused(t, Super{Blocks: n, State: n, Target: n, Cursor: n, Ino: n, Base: n, Table: [6]int{n, n, n, n, n, n}})
	}
}

// P5.1, Decode: sealed blocks with a number turned, also to the greatest that its bytes hold.
func TestDecodeNumbers(t *testing.T) {
	for _, s := range one() {
		content, _ := modelContent(s)
		for at := 8; at < 31; at++ {
			for n := range 256 {
				turned := []byte(content)
				turned[at] = byte(n)
				b := modelSeal(string(turned), 256)
				got, e := Decode(b)
				if e == api.OK {
					holds(t, got, Limit(got))
					if again, _ := modelContent(got); again != string(turned) {
						t.Fatalf("%x is read as %+v", turned, got)
					}
				} else {
					undecoded(t, b)
				}
			}
		}
	}
	undecoded(t, modelSeal("ashlar 1"+string(bytes.Repeat([]byte{255}, 23)), 256))
	undecoded(t, modelSeal("ashlar 1", 256))
}

// P5.1, Decode: sealed blocks that do not begin with the eight characters, each of them turned.
func TestDecodeMagic(t *testing.T) {
	for _, s := range one() {
		content, _ := modelContent(s)
		for at := range 8 {
			for turn := 1; turn < 256; turn++ {
				turned := []byte(content)
				turned[at] ^= byte(turn)
				undecoded(t, modelSeal(string(turned), 256))
			}
		}
		for _, start := range []string{"ashlar 2", "ashlar1 ", "Ashlar 1", "ashlar 1 ", "ashlar ", "", " ashlar 1", "\x00\x00\x00\x00\x00\x00\x00\x00"} {
			undecoded(t, modelSeal(start+content[8:], 256))
		}
	}
}

// P5.1, Decode: sealed blocks with another byte than zero after the last number, in each place.
func TestDecodeRest(t *testing.T) {
	for _, s := range one() {
		content, _ := modelContent(s)
		for at := len(content); at < 252; at++ {
			for _, c := range []byte{1, 32, 128, 255} {
				long := make([]byte, 252)
				copy(long, content)
				long[at] = c
				undecoded(t, modelSeal(string(long), 256))
			}
		}
	}
}

// P5.1, Decode: a block with one byte turned, and no new checksum.
func TestDecodeTurned(t *testing.T) {
	for _, s := range one() {
		content, _ := modelContent(s)
		b := modelSeal(content, 256)
		for i := range b {
			for turn := 1; turn < 256; turn++ {
				b[i] ^= byte(turn)
				undecoded(t, b)
				b[i] ^= byte(turn)
			}
		}
		if got, e := Decode(b); e != api.OK || got != s {
			t.Errorf("turned back: %+v, %v", got, e)
		}
	}
}

// P5.1, Decode: blocks of the wrong length, sealed at theirs or cut from a right one, and blocks of nothing in particular.
func TestDecodeLength(t *testing.T) {
	content, _ := modelContent(one()[3])
	long := append(modelSeal(content, 256), modelSeal(content, 256)...)
	for length := range len(long) {
		if length == 256 {
			continue
		}
		undecoded(t, long[:length])
		if length >= len(content)+4 {
			undecoded(t, modelSeal(content, length))
		}
	}
	undecoded(t, nil)
	undecoded(t, []byte{})
	undecoded(t, make([]byte, 256))
	undecoded(t, bytes.Repeat([]byte{255}, 256))
	undecoded(t, modelSeal("", 256))
}

// R3: arguments are left unchanged, results are new memory, also where they have room to spare.
func TestNoSharing(t *testing.T) {
	for _, s := range one() {
		b, _ := Encode(s)
		again, _ := Encode(s)
		spare := b[:cap(b)]
		for i := range spare {
			spare[i] ^= 255
		}
		if got, e := Decode(again); e != api.OK || got != s {
			t.Errorf("two blocks share their memory: %+v, %v", got, e)
		}
		all := slices.Concat(again, []byte("spare"))
		before := slices.Clone(all)
		got, e := Decode(all[:256])
		if e != api.OK || !bytes.Equal(all, before) {
			t.Errorf("Decode changes its argument: %v", e)
		}
		clear(all)
		if got != s {
			t.Errorf("Decode keeps its argument: %+v", got)
		}
	}
}

// R2: the same call answers the same, whatever was called between.
func TestSameAgain(t *testing.T) {
	for i, s := range one() {
		holds(t, s, limits[i])
		for j, other := range one() {
			holds(t, other, limits[j])
		}
		refused(t, Super{})
		undecoded(t, nil)
		holds(t, s, limits[i])
	}
}
