package txn

import (
	"bytes"
	"encoding/hex"
	"hash/fnv"
	"math"
	"slices"
	"strings"
	"testing"

	"ashlar/api"
)

// most is the greatest number of blocks that a transaction has.
const most = 37

// sequences holds the ends of all sequences, and some whose bytes differ.
var sequences = []uint32{0, 1, 1<<32 - 1, 7, 255, 256, 0x04030201, 1<<31 - 1, 1 << 31}

// odd holds numbers that no block has, also such that are right ones when cut to fewer bytes.
var odd = []int{
	math.MinInt, math.MinInt + 1, math.MinInt + 767, -1 << 32, -1<<32 + 1, -1<<32 + 767, -1 << 31, -1<<31 + 5, -1 << 16, -1<<16 + 3, -65535, -768, -767, -256, -255, -2, -1,
	768, 769, 1023, 1024, 32767, 32768, 65535, 1 << 16, 1<<16 + 1, 1<<16 + 767, 1<<17 + 9, 1<<24 + 3, 1<<31 - 1, 1 << 31, 1<<31 + 1,
	1 << 32, 1<<32 + 1, 1<<32 + 767, 1<<40 + 1, 1<<48 + 1, 1<<56 + 1, math.MaxInt - 767, math.MaxInt - 1, math.MaxInt,
}

// lists holds numbers of right transactions: none, one, two, some and the most, in all kinds of order.
func lists() [][]int {
	down, wide := span(731, most), []int{767, 0}
	slices.Reverse(down)
	for i := 1; len(wide) < most; i++ {
		wide = append(wide, i*21)
	}
	return [][]int{
		{}, {0}, {767}, {1}, {255}, {256}, {258}, {60, 0}, {0, 767}, {767, 0}, {258, 1}, {256, 0, 1}, {5, 9, 2, 300, 299},
		span(0, most), span(731, most), down, wide, span(0, most-1), span(100, 20),
	}
}

// span returns count numbers from least on.
func span(least, count int) []int {
	all := make([]int, count)
	for i := range all {
		all[i] = least + i
	}
	return all
}

// filled returns length bytes, which differ from their neighbours and from those of another seed.
func filled(length, seed int) []byte {
	b := make([]byte, length)
	for i := range b {
		b[i] = byte(i*7 + seed*31 + i*seed/5 + 1)
	}
	return b
}

// blocks returns count blocks that all differ.
func blocks(count int) [][]byte {
	list := make([][]byte, count)
	for i := range list {
		list[i] = filled(256, i)
	}
	return list
}

// some returns a transaction with these numbers, right or wrong, and as many blocks.
func some(seq uint32, numbers []int) Txn {
	return Txn{Seq: seq, Numbers: numbers, Data: blocks(len(numbers))}
}

// low writes n by division, the lowest byte first.
func low(n, size int) string {
	var b []byte
	for range size {
		b = append(b, byte(n%256))
		n /= 256
	}
	return string(b)
}

// modelSeal lays a sealed block of any length, to have blocks whose length alone is wrong.
func modelSeal(content string, length int) []byte {
	b := make([]byte, length)
	copy(b[:length-4], content)
	h := fnv.New32a()
	h.Write(b[:length-4])
	copy(b[length-4:], low(int(h.Sum32()), 4))
	return b
}

// stated writes the numbers of blocks as a head states them, right or wrong.
func stated(numbers []int) string {
	s := ""
	for _, n := range numbers {
		s += low(n, 2)
	}
	return s
}

// modelHead says the chapter's bytes of a head, the number of blocks taken as it comes.
func modelHead(word string, seq uint32, count int, rest string) []byte {
	return modelSeal(word+low(int(seq), 4)+low(count, 2)+rest, 256)
}

// modelEnd says the chapter's bytes of an end.
func modelEnd(word string, seq uint32, rest string) []byte {
	return modelSeal(word+low(int(seq), 4)+rest, 256)
}

// stored says all blocks of t, right or wrong.
func stored(t Txn) [][]byte {
	all := [][]byte{modelHead("jrnl", t.Seq, len(t.Numbers), stated(t.Numbers))}
	return append(append(all, t.Data...), modelEnd("done", t.Seq, ""))
}

func sameBlocks(a, b [][]byte) bool {
	return slices.EqualFunc(a, b, bytes.Equal)
}

func same(a, b Txn) bool {
	return a.Seq == b.Seq && slices.Equal(a.Numbers, b.Numbers) && sameBlocks(a.Data, b.Data)
}

func cloneBlocks(list [][]byte) [][]byte {
	all := make([][]byte, len(list))
	for i, b := range list {
		all[i] = slices.Clone(b)
	}
	return all
}

func clone(x Txn) Txn {
	return Txn{x.Seq, slices.Clone(x.Numbers), cloneBlocks(x.Data)}
}

// holds tests all calls on a right transaction, there and back.
func holds(t *testing.T, x Txn) {
	t.Helper()
	was, want := clone(x), stored(clone(x))
	if !Formed(x) {
		t.Fatalf("%d, %v is not well formed", x.Seq, x.Numbers)
	}
	if l, e := Pack(x); e != api.OK || !sameBlocks(l, want) || !same(x, was) {
		t.Fatalf("Pack(%d, %v): %d blocks, %v", x.Seq, x.Numbers, len(l), e)
	}
	unpacked(t, want, was)
}

// unpacked holds that list stores x.
func unpacked(t *testing.T, list [][]byte, x Txn) {
	t.Helper()
	before := cloneBlocks(list)
	if y, ok := Unpack(list); !ok || !same(y, x) {
		t.Fatalf("Unpack of %d blocks: %d, %v, %d blocks, %v, not %d, %v", len(list), y.Seq, y.Numbers, len(y.Data), ok, x.Seq, x.Numbers)
	}
	sequenced(t, list, x.Seq)
	if !sameBlocks(list, before) {
		t.Fatal("Unpack or Seq changes its argument")
	}
}

// sequenced holds that list begins with a head of that sequence.
func sequenced(t *testing.T, list [][]byte, want uint32) {
	t.Helper()
	if seq, ok := Seq(list); seq != want || !ok {
		t.Fatalf("Seq of %d blocks: %d, %v, not %d", len(list), seq, ok, want)
	}
}

// refused holds that x is no transaction, and has no blocks.
func refused(t *testing.T, x Txn) {
	t.Helper()
	was := clone(x)
	if Formed(x) {
		t.Fatalf("%v with %d blocks is well formed", x.Numbers, len(x.Data))
	}
	if l, e := Pack(x); l != nil || e != api.ErrArg || !same(x, was) {
		t.Fatalf("Pack(%v with %d blocks): %d blocks, %v", x.Numbers, len(x.Data), len(l), e)
	}
}

// noTxn holds that list stores no transaction.
func noTxn(t *testing.T, list [][]byte) {
	t.Helper()
	before := cloneBlocks(list)
	if y, ok := Unpack(list); ok || y.Seq != 0 || y.Numbers != nil || y.Data != nil || !sameBlocks(list, before) {
		t.Fatalf("Unpack of %d blocks: %d, %v, %d blocks, %v", len(list), y.Seq, y.Numbers, len(y.Data), ok)
	}
}

// noHead holds that list does not begin with a head, and so stores no transaction, either.
func noHead(t *testing.T, list [][]byte) {
	t.Helper()
	noTxn(t, list)
	if seq, ok := Seq(list); seq != 0 || ok {
		t.Fatalf("Seq of %d blocks: %d, %v", len(list), seq, ok)
	}
}

// headed holds that list begins with a head, and yet stores no transaction.
func headed(t *testing.T, list [][]byte, seq uint32) {
	t.Helper()
	noTxn(t, list)
	sequenced(t, list, seq)
}

// replaced returns list with another block at place k.
func replaced(list [][]byte, k int, b []byte) [][]byte {
	all := slices.Clone(list)
	all[k] = b
	return all
}

// between returns list with others before its last block.
func between(list [][]byte, others ...[]byte) [][]byte {
	return slices.Concat(list[:len(list)-1], others, list[len(list)-1:])
}

// P9.1: all 256 bytes of heads and ends, with checksums that were worked out elsewhere.
func TestWrittenOut(t *testing.T) {
	numbers := ""
	for n := 0xdb; n <= 0xff; n++ {
		numbers += string([]byte{byte(n), 2})
	}
	for _, c := range []struct {
		seq             uint32
		numbers         []int
		head, sum, done string
		endSum          string
	}{
		{7, []int{60, 0}, "jrnl\x07\x00\x00\x00\x02\x00\x3c\x00\x00\x00", "26f19649", "done\x07\x00\x00\x00", "b697a304"},
		{7, []int{258, 1}, "jrnl\x07\x00\x00\x00\x02\x00\x02\x01\x01\x00", "da6e1b8d", "done\x07\x00\x00\x00", "b697a304"},
		{0, nil, "jrnl\x00\x00\x00\x00\x00\x00", "9fb67897", "done\x00\x00\x00\x00", "516b7118"},
		{0, []int{767}, "jrnl\x00\x00\x00\x00\x01\x00\xff\x02", "63094da1", "done\x00\x00\x00\x00", "516b7118"},
		{1, nil, "jrnl\x01\x00\x00\x00\x00\x00", "bead6e9b", "done\x01\x00\x00\x00", "7062671c"},
		{1, []int{0}, "jrnl\x01\x00\x00\x00\x01\x00\x00\x00", "8f7a88e8", "done\x01\x00\x00\x00", "7062671c"},
		{1, span(731, 37), "jrnl\x01\x00\x00\x00\x25\x00" + numbers, "262c4672", "done\x01\x00\x00\x00", "7062671c"},
		{1<<32 - 1, []int{60, 0}, "jrnl\xff\xff\xff\xff\x02\x00\x3c\x00\x00\x00", "9554358c", "done\xff\xff\xff\xff", "ad96ae61"},
		{1<<32 - 1, nil, "jrnl\xff\xff\xff\xff\x00\x00", "fbbbd651", "done\xff\xff\xff\xff", "ad96ae61"},
		{0x04030201, span(731, 37), "jrnl\x01\x02\x03\x04\x25\x00" + numbers, "c32788b8", "done\x01\x02\x03\x04", "215b3554"},
	} {
		x := some(c.seq, c.numbers)
		want := [][]byte{whole(t, c.head, c.sum)}
		want = append(append(want, cloneBlocks(x.Data)...), whole(t, c.done, c.endSum))
		if l, e := Pack(x); e != api.OK || !sameBlocks(l, want) {
			t.Errorf("Pack(%d, %v): %x, %v", c.seq, c.numbers, l, e)
		}
		unpacked(t, want, x)
	}
}

// whole returns a block of its first bytes, zeros, and a checksum written as hexadecimal digits.
func whole(t *testing.T, content, sum string) []byte {
	t.Helper()
	last, e := hex.DecodeString(sum)
	if e != nil {
		t.Fatal(e)
	}
	return []byte(content + strings.Repeat("\x00", 252-len(content)) + string(last))
}

// P9.1: each list of numbers with each sequence, there and back.
func TestThereAndBack(t *testing.T) {
	for _, numbers := range lists() {
		for _, seq := range sequences {
			holds(t, some(seq, numbers))
		}
	}
	for bit := range 32 {
		holds(t, some(1<<bit, []int{5}))
		holds(t, some(1<<bit-1, []int{5, 6}))
	}
}

// P9.1: each number of blocks, from none to the most, and beyond it.
func TestCount(t *testing.T) {
	for n := range 120 {
		x := some(9, span(300, n))
		if n <= most {
			holds(t, x)
			continue
		}
		refused(t, x)
		// A head that states as many is none, though there are as many blocks and an end.
		noHead(t, stored(x))
	}
	refused(t, some(9, span(0, 768)))
	refused(t, some(9, span(0, 65536+2)))
}

// P9.1: no blocks and no numbers, nil or empty, are a transaction of none.
func TestNone(t *testing.T) {
	for _, numbers := range [][]int{nil, {}, span(0, 5)[:0]} {
		for _, data := range [][][]byte{nil, {}, blocks(5)[:0]} {
			for _, seq := range sequences {
				holds(t, Txn{seq, numbers, data})
			}
		}
	}
	holds(t, Txn{})
}

// P9.1: each number alone, from far below 0 to far beyond the last, and the odd ones.
func TestNumber(t *testing.T) {
	for n := -1000; n < 3000; n++ {
		x := some(3, []int{n})
		if n >= 0 && n <= 767 {
			holds(t, x)
		} else {
			refused(t, x)
		}
	}
	for _, n := range odd {
		refused(t, some(3, []int{n}))
	}
}

// P9.1: a wrong number at each place among right ones.
func TestNumberAmong(t *testing.T) {
	for _, count := range []int{1, 2, 3, 36, 37} {
		for k := range count {
			for _, n := range odd {
				numbers := span(200, count)
				numbers[k] = n
				refused(t, some(3, numbers))
			}
			for _, n := range []int{0, 767} {
				numbers := span(200, count)
				numbers[k] = n
				holds(t, some(3, numbers))
			}
		}
	}
}

// P9.1: each pair of places with the same number, next to each other and first and last among them.
func TestTwice(t *testing.T) {
	for _, n := range []int{0, 1, 300, 767} {
		for _, count := range []int{2, 3, 5, 36, 37} {
			for i := range count {
				for k := range i {
					numbers := span(400, count)
					numbers[i], numbers[k] = n, n
					refused(t, some(3, numbers))
					noHead(t, stored(some(3, numbers)))
				}
			}
			refused(t, some(3, slices.Repeat([]int{n}, count)))
		}
	}
	// Blocks may have the same bytes.
	b := filled(256, 3)
	holds(t, Txn{3, []int{4, 5, 6}, [][]byte{b, b, b}})
	holds(t, Txn{3, []int{4, 5}, [][]byte{make([]byte, 256), make([]byte, 256)}})
}

// P9.1: a block of each wrong length at each place, in a transaction and among blocks.
func TestLength(t *testing.T) {
	for _, count := range []int{1, 2, 3, 37} {
		x := some(3, span(0, count))
		list := stored(x)
		for k := range count {
			for _, length := range []int{0, 1, 4, 128, 252, 254, 255, 257, 258, 512, 65536 + 256} {
				bad := filled(length, k)
				refused(t, Txn{x.Seq, x.Numbers, replaced(x.Data, k, bad)})
				headed(t, replaced(list, k+1, bad), 3)
			}
			refused(t, Txn{x.Seq, x.Numbers, replaced(x.Data, k, nil)})
			headed(t, replaced(list, k+1, nil), 3)
			refused(t, Txn{x.Seq, x.Numbers, replaced(x.Data, k, filled(300, k)[:255])})
		}
	}
}

// P9.1: each number of blocks with each other number of numbers.
func TestUneven(t *testing.T) {
	for n := range most + 3 {
		for m := range most + 3 {
			if n != m {
				refused(t, Txn{3, span(5, n), blocks(m)})
			}
		}
	}
	refused(t, Txn{3, nil, [][]byte{nil}})
	refused(t, Txn{3, []int{5}, nil})
	refused(t, Txn{3, []int{5}, [][]byte{}})
	refused(t, Txn{3, span(5, 9)[:2], blocks(3)})
	refused(t, Txn{3, span(5, 3), blocks(9)[:2]})
}

// P9.1: blocks of any bytes are taken, also such that look like a head or an end.
func TestDataAsJournal(t *testing.T) {
	other := stored(some(3, []int{8, 9}))
	for _, x := range []Txn{
		{3, []int{1}, other[:1]}, {3, []int{1}, other[3:]}, {3, []int{1, 2, 3, 4}, other}, {4, []int{4, 3, 2, 1}, other},
		{3, []int{1, 2}, [][]byte{modelEnd("done", 3, ""), modelEnd("done", 3, "")}}, {3, []int{1}, [][]byte{make([]byte, 256)}},
	} {
		holds(t, x)
	}
}

// P9.1: no blocks at all, and a head alone.
func TestFew(t *testing.T) {
	noHead(t, nil)
	noHead(t, [][]byte{})
	noHead(t, stored(some(3, nil))[:0])
	noHead(t, [][]byte{nil})
	noHead(t, [][]byte{{}})
	for _, numbers := range lists() {
		for _, seq := range sequences {
			list := stored(some(seq, numbers))
			headed(t, list[:1], seq)
			headed(t, [][]byte{list[0], list[0]}, seq)
		}
	}
}

// P9.1: too few blocks: cut at each place, and each one left out in turn.
func TestTooFew(t *testing.T) {
	for _, numbers := range lists() {
		list := stored(some(3, numbers))
		for n := 1; n < len(list); n++ {
			headed(t, list[:n], 3)
			if n < len(list)-1 {
				headed(t, slices.Concat(list[:n], list[n+1:]), 3)
				headed(t, slices.Concat(list[:n], list[len(list)-1:]), 3)
			}
		}
		noHead(t, list[1:])
	}
	// A last block of the transaction that looks like its end is no end as well.
	x := Txn{3, []int{5, 6}, [][]byte{filled(256, 1), modelEnd("done", 3, "")}}
	headed(t, stored(x)[:3], 3)
	headed(t, [][]byte{modelHead("jrnl", 3, 1, low(5, 2)), modelEnd("done", 3, "")}, 3)
}

// P9.1: other blocks between the blocks and the end, one and many, of any length.
func TestBetween(t *testing.T) {
	junk := [][]byte{nil, {}, {9}, filled(255, 1), filled(256, 2), filled(257, 3), filled(5000, 4), make([]byte, 256)}
	for _, numbers := range lists() {
		x := some(3, numbers)
		list := stored(x)
		unpacked(t, between(list), x)
		for _, b := range append(junk, list...) {
			unpacked(t, between(list, b), x)
			unpacked(t, between(list, b, b), x)
		}
		unpacked(t, between(list, junk...), x)
		unpacked(t, between(list, list...), x)
		unpacked(t, between(list, slices.Repeat(junk, 100)...), x)
		unpacked(t, between(list, modelEnd("done", 4, ""), modelEnd("Done", 3, "")), x)
	}
	for n := range 100 {
		x := some(3, []int{5, 6})
		unpacked(t, between(stored(x), blocks(n)...), x)
	}
}

// P9.1: an end that stands not last: something behind it, of any length, an end of another sequence among it.
func TestEndNotLast(t *testing.T) {
	for _, numbers := range lists() {
		list := stored(some(3, numbers))
		for _, b := range [][]byte{nil, {}, {9}, filled(255, 1), filled(256, 2), make([]byte, 256), list[0], modelEnd("done", 4, "")} {
			headed(t, append(slices.Clone(list), b), 3)
			headed(t, append(slices.Clone(list), b, b), 3)
		}
		if count := len(numbers); count > 0 {
			swapped := slices.Clone(list)
			swapped[count], swapped[count+1] = swapped[count+1], swapped[count]
			headed(t, swapped, 3)
		}
	}
}

// P9.1: a first block that is sealed but no head.
func TestSealedNoHead(t *testing.T) {
	var wrong [][]byte
	for _, word := range []string{"done", "jrnL", "Jrnl", "JRNL", "jrn\x00", "lnrj", "jrn ", "desc", "\x00\x00\x00\x00", "ashl"} {
		wrong = append(wrong, modelHead(word, 3, 2, stated([]int{5, 6})), modelHead(word, 3, 0, ""))
	}
	for count := most + 1; count < 1<<16; count++ {
		if count < 600 || count%251 == 0 || count%256 < 3 || count > 65500 {
			wrong = append(wrong, modelHead("jrnl", 3, count, stated(span(0, most))), modelHead("jrnl", 3, count, stated(span(0, min(count, 121)))))
		}
	}
	for _, n := range []int{768, 769, 1023, 1024, 4096, 32767, 32768, 65535} {
		for k := range most {
			numbers := span(100, most)
			numbers[k] = n
			wrong = append(wrong, modelHead("jrnl", 3, most, stated(numbers)), modelHead("jrnl", 3, k+1, stated(numbers[:k+1])))
		}
	}
	for _, n := range []int{0, 5, 767} {
		wrong = append(wrong, modelHead("jrnl", 3, 2, stated([]int{n, n})), modelHead("jrnl", 3, 3, stated([]int{n, 9, n})))
		wrong = append(wrong, modelHead("jrnl", 3, most, stated(append(append([]int{n}, span(100, most-2)...), n))))
	}
	// Fewer numbers than stated are zeros, which are the same number twice.
	wrong = append(wrong, modelHead("jrnl", 3, 3, stated([]int{5})), modelHead("jrnl", 3, 2, ""), modelHead("jrnl", 3, most, ""))
	wrong = append(wrong, modelSeal("", 256), modelEnd("done", 3, ""), modelSeal("jrnl", 252), modelSeal("\x00jrnl\x03", 256))
	for _, b := range wrong {
		noHead(t, [][]byte{b})
		noHead(t, append(append([][]byte{b}, blocks(2)...), modelEnd("done", 3, "")))
		noHead(t, append(append([][]byte{b}, blocks(most)...), modelEnd("done", 3, "")))
		noHead(t, append(append([][]byte{b}, blocks(130)...), modelEnd("done", 3, "")))
		noHead(t, [][]byte{b, modelEnd("done", 3, "")})
		noHead(t, [][]byte{b, modelEnd("done", 0, "")})
	}
}

// P9.1: a number of two bytes in a head is right up to 767, and no further.
func TestHeadNumbers(t *testing.T) {
	data, end := filled(256, 1), modelEnd("done", 3, "")
	for n := range 1 << 16 {
		list := [][]byte{modelHead("jrnl", 3, 1, low(n, 2)), data, end}
		if n < 768 {
			unpacked(t, list, Txn{3, []int{n}, [][]byte{data}})
		} else {
			noHead(t, list)
		}
	}
}

// P9.1: another byte than zero at each place behind a head's numbers, in a sealed block.
func TestHeadRest(t *testing.T) {
	for _, count := range []int{0, 1, 2, 36, 37} {
		x := some(3, span(100, count))
		list := stored(x)
		for at := 2 * count; at < 242; at++ {
			for _, c := range []byte{1, 'd', 128, 255} {
				rest := append([]byte(stated(x.Numbers)), make([]byte, at-2*count)...)
				noHead(t, replaced(list, 0, modelHead("jrnl", 3, count, string(append(rest, c)))))
			}
		}
	}
}

// P9.1: a first and a last block of each wrong length, which are right as far as they go.
func TestHeadAndEndLength(t *testing.T) {
	for _, numbers := range [][]int{nil, {5}, span(0, most)} {
		list := stored(some(3, numbers))
		last := len(list) - 1
		head := "jrnl" + low(3, 4) + low(len(numbers), 2) + stated(numbers)
		for length := range 520 {
			if length == 256 {
				continue
			}
			noHead(t, replaced(list, 0, append(slices.Clone(list[0]), make([]byte, 300)...)[:length]))
			headed(t, replaced(list, last, append(slices.Clone(list[last]), make([]byte, 300)...)[:length]), 3)
			if length >= 88 {
				noHead(t, replaced(list, 0, modelSeal(head, length)))
				headed(t, replaced(list, last, modelSeal("done"+low(3, 4), length)), 3)
			}
		}
		headed(t, replaced(list, last, nil), 3)
		noHead(t, replaced(list, 0, nil))
	}
}

// P9.1: a last block that is sealed but no end: another word, another sequence, and other bytes behind it.
func TestSealedNoEnd(t *testing.T) {
	for _, numbers := range lists() {
		for _, seq := range sequences {
			list := stored(some(seq, numbers))
			wrong := [][]byte{modelSeal("", 256), list[0], modelHead("jrnl", seq, 0, ""), modelHead("done", seq, 2, stated([]int{5, 6}))}
			for _, word := range []string{"jrnl", "donE", "Done", "DONE", "don\x00", "enod", "desc", "\x00\x00\x00\x00", "\x00don"} {
				wrong = append(wrong, modelEnd(word, seq, ""))
			}
			for _, other := range []uint32{seq + 1, seq - 1, seq + 2, seq ^ 1<<8, seq ^ 1<<16, seq ^ 1<<24, seq ^ 1<<31, seq + 1<<16, ^seq} {
				wrong = append(wrong, modelEnd("done", other, ""))
			}
			for _, b := range wrong {
				headed(t, replaced(list, len(list)-1, b), seq)
				headed(t, append(slices.Clone(list), b), seq)
			}
		}
	}
}

// P9.1: another byte than zero at each place behind an end's sequence, in a sealed block.
func TestEndRest(t *testing.T) {
	for _, count := range []int{0, 2, 37} {
		list := stored(some(3, span(100, count)))
		for at := range 244 {
			for c := 1; c < 256; c += 2 {
				rest := append(make([]byte, at), byte(c))
				headed(t, replaced(list, len(list)-1, modelEnd("done", 3, string(rest))), 3)
			}
		}
	}
}

// P9.1: each byte of the head and of the end turned, in any way; then in a block between, which it does not spoil.
func TestTurned(t *testing.T) {
	for _, count := range []int{0, 1, 2, 37} {
		x := some(0x04030201, span(250, count))
		list := stored(x)
		for at := range 256 {
			for turn := 1; turn < 256; turn++ {
				first, last := slices.Clone(list[0]), slices.Clone(list[count+1])
				first[at] ^= byte(turn)
				last[at] ^= byte(turn)
				noHead(t, replaced(list, 0, first))
				headed(t, replaced(list, count+1, last), x.Seq)
			}
			if count > 0 {
				y := clone(x)
				y.Data[count-1][at] ^= 255
				unpacked(t, stored(y), y)
			}
		}
	}
}

// P9.1: Seq asks for the head alone, whatever follows it.
func TestSeqAlone(t *testing.T) {
	for _, numbers := range lists() {
		for _, seq := range sequences {
			head := stored(some(seq, numbers))[0]
			sequenced(t, [][]byte{head}, seq)
			for _, b := range [][]byte{nil, {}, {9}, filled(255, 1), filled(256, 2), head, modelEnd("done", seq, ""), modelEnd("done", seq+1, ""), modelHead("jrnl", seq+1, 0, "")} {
				sequenced(t, [][]byte{head, b}, seq)
				sequenced(t, slices.Concat([][]byte{head}, slices.Repeat([][]byte{b}, 50)), seq)
			}
		}
	}
	// A head that stands not first is not looked for.
	list := stored(some(3, []int{5}))
	noHead(t, list[1:])
	noHead(t, slices.Concat([][]byte{nil}, list))
	noHead(t, slices.Concat([][]byte{filled(256, 1)}, list))
	noHead(t, slices.Concat(list[2:], list))
}

// spare returns a copy of b before other bytes, which its capacity reaches.
func spare(b []byte) []byte {
	return append(slices.Clone(b), "spare"...)[:len(b)]
}

// unspared reports whether the bytes behind b are still there.
func unspared(b []byte) bool {
	return string(b[:len(b)+5][len(b):]) == "spare"
}

// turnAll overwrites each block of list, with the room that it has to spare.
func turnAll(list [][]byte) {
	for _, b := range list {
		b = b[:cap(b)]
		for i := range b {
			b[i] ^= 255
		}
	}
}

// R3: what Pack returns is new memory, each block for itself, and what it is given stays as it is, with what lies behind it.
func TestPackNoSharing(t *testing.T) {
	for _, numbers := range lists() {
		x := clone(some(3, append(slices.Clone(numbers), 700)))
		for i, b := range x.Data {
			x.Data[i] = spare(b)
		}
		was, n := clone(x), len(numbers)
		given := Txn{3, x.Numbers[:n], x.Data[:n]}
		l, _ := Pack(given)
		again, _ := Pack(given)
		alone(t, l)
		if !same(x, was) || !sameBlocks(again, stored(some(3, numbers))) {
			t.Fatalf("Pack(%v) changes its argument, or shares", numbers)
		}
		for _, b := range x.Data {
			if !unspared(b) {
				t.Fatalf("Pack(%v) changes what lies behind a block", numbers)
			}
		}
		turnAll(x.Data)
		clear(x.Data)
		clear(x.Numbers)
		if !sameBlocks(again, stored(some(3, numbers))) {
			t.Fatalf("Pack(%v) keeps its argument", numbers)
		}
	}
}

// alone overwrites each block of list in turn, and holds that the others stay as they are; then it clears the list.
func alone(t *testing.T, list [][]byte) {
	t.Helper()
	for i := range list {
		before := cloneBlocks(list)
		turnAll(list[i : i+1])
		before[i] = list[i]
		if !sameBlocks(list, before) {
			t.Fatalf("block %d shares its memory with another one", i)
		}
	}
	clear(list[:cap(list)])
}

// R3: what Unpack returns is new memory, and what it is given stays as it is, with what lies behind it.
func TestUnpackNoSharing(t *testing.T) {
	for _, numbers := range lists() {
		x := some(3, numbers)
		list := cloneBlocks(between(stored(x), filled(9, 1)))
		for i, b := range list {
			list[i] = spare(b)
		}
		list = append(list, spare(filled(256, 9)))
		was, given := cloneBlocks(list), list[:len(list)-1]
		y, _ := Unpack(given)
		again, _ := Unpack(given)
		Seq(given)
		alone(t, y.Data)
		for i := range y.Numbers[:cap(y.Numbers)] {
			y.Numbers[:cap(y.Numbers)][i] = -1
		}
		if !sameBlocks(list, was) || !same(again, x) {
			t.Fatalf("Unpack, %v: it changes its argument, or shares", numbers)
		}
		for _, b := range list {
			if !unspared(b) {
				t.Fatalf("Unpack, %v: it changes what lies behind a block", numbers)
			}
		}
		turnAll(list)
		clear(list)
		if !same(again, x) {
			t.Fatalf("Unpack, %v: it keeps its argument", numbers)
		}
	}
}

// R3: the same block given many times is returned each time in memory of its own.
func TestSameBlockTwice(t *testing.T) {
	b := filled(256, 1)
	l, _ := Pack(Txn{3, []int{4, 5, 6}, [][]byte{b, b, b}})
	alone(t, l)
	y, _ := Unpack(stored(Txn{3, []int{4, 5, 6}, [][]byte{b, b, b}}))
	alone(t, y.Data)
	if !bytes.Equal(b, filled(256, 1)) {
		t.Error("a block is shared")
	}
}

// R2: the same call answers the same, whatever was called between.
func TestSameAgain(t *testing.T) {
	for range 3 {
		for _, numbers := range lists() {
			holds(t, some(7, numbers))
			refused(t, some(7, append(slices.Clone(numbers), 768)))
			noHead(t, nil)
			headed(t, stored(some(8, numbers))[:1], 8)
		}
	}
}
