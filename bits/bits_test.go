package bits

import (
	"bytes"
	"math"
	"slices"
	"testing"

	"ashlar/api"
)

// odd holds numbers that are far from any row, so that sums with them wrap round.
var odd = []int{math.MinInt, math.MinInt + 1, -4097, -4096, -9, -8, -1, 4097, 1 << 32, math.MaxInt - 1, math.MaxInt}

// rowOf makes a row by Set alone.
func rowOf(t *testing.T, model []bool) *Row {
	t.Helper()
	r := New(len(model))
	for i, on := range model {
		if on && r.Set(i, true) != api.OK {
			t.Fatalf("Set(%d) of %d bits", i, len(model))
		}
	}
	return r
}

// modelOf returns the lowest n bits of pattern.
func modelOf(n, pattern int) []bool {
	model := make([]bool, n)
	for i := range model {
		model[i] = pattern/pow2(i)%2 == 1
	}
	return model
}

func pow2(i int) int {
	n := 1
	for range i {
		n *= 2
	}
	return n
}

// modelBytes says the chapter's terms word by word: bit i has the value 2^(i modulo 8) of byte i / 8.
func modelBytes(model []bool) []byte {
	b := make([]byte, (len(model)+7)/8)
	for i, on := range model {
		if on {
			b[i/8] += byte(pow2(i % 8))
		}
	}
	return b
}

func modelCount(model []bool) int {
	n := 0
	for _, on := range model {
		if on {
			n++
		}
	}
	return n
}

func modelFirst(model []bool, goal int) int {
	if goal < 0 || goal >= len(model) {
		goal = 0
	}
	for i := goal; i < len(model); i++ {
		if !model[i] {
			return i
		}
	}
	return slices.Index(model, false)
}

func modelRun(model []bool, n int) int {
	if n < 1 {
		return -1
	}
	for i := 0; n <= len(model) && i <= len(model)-n; i++ {
		if !slices.Contains(model[i:i+n], true) {
			return i
		}
	}
	return -1
}

// compare holds everything that a row tells against the model.
func compare(t *testing.T, r *Row, model []bool) {
	t.Helper()
	if r.Len() != len(model) || r.Count() != modelCount(model) || !bytes.Equal(r.Bytes(), modelBytes(model)) {
		t.Fatalf("Len %d, Count %d, Bytes %x of %v", r.Len(), r.Count(), r.Bytes(), model)
	}
	for i, on := range model {
		if r.Get(i) != on {
			t.Fatalf("Get(%d) of %v", i, model)
		}
	}
}

// search holds the searches of a row, from beyond its ends, too, against the model.
func search(t *testing.T, r *Row, model []bool) {
	t.Helper()
	for n := -2; n <= len(model)+2; n++ {
		if at := r.First(n); at != modelFirst(model, n) {
			t.Fatalf("First(%d) of %v: %d", n, model, at)
		}
		if at := r.Run(n); at != modelRun(model, n) {
			t.Fatalf("Run(%d) of %v: %d", n, model, at)
		}
	}
	for _, n := range odd {
		if at := r.First(n); at != modelFirst(model, n) {
			t.Fatalf("First(%d) of %v: %d", n, model, at)
		}
		if at := r.Run(n); at != -1 {
			t.Fatalf("Run(%d) of %v: %d", n, model, at)
		}
	}
}

// P1.1 and P1.2, with every row of up to ten bits, so with all unused bits of a last byte.
func TestAllSmallRows(t *testing.T) {
	for n := range 11 {
		for pattern := range pow2(n) {
			model := modelOf(n, pattern)
			r := rowOf(t, model)
			compare(t, r, model)
			search(t, r, model)
			same, e := Of(n, modelBytes(model))
			if e != api.OK {
				t.Fatalf("Of(%d, %x): %v", n, modelBytes(model), e)
			}
			compare(t, same, model)
			search(t, same, model)
		}
	}
}

// P1.1 and P1.2, with rows about the ends of bytes and words, and about the greatest one.
func TestLongRows(t *testing.T) {
	for _, n := range []int{63, 64, 65, 127, 255, 256, 511} {
		for _, step := range []int{1, 2, 7, 8, 9, n - 1, n} {
			model := make([]bool, n)
			for i := 0; i < n; i += step {
				model[i] = true
			}
			r := rowOf(t, model)
			compare(t, r, model)
			search(t, r, model)
		}
	}
}

// P1.1: New.
func TestNew(t *testing.T) {
	for n, want := range map[int]int{
		math.MinInt: 0, -4096: 0, -1: 0, 0: 0, 1: 1, 7: 7, 8: 8, 9: 9, 64: 64,
		4095: 4095, 4096: 4096, 4097: 4096, 5000: 4096, 1 << 32: 4096, math.MaxInt: 4096,
	} {
		compare(t, New(n), make([]bool, want))
	}
}

// P1.1: Of with the bytes of rows.
func TestOf(t *testing.T) {
	for _, c := range []struct {
		n     int
		b     string
		count int
	}{
		{0, "", 0}, {1, "\x00", 0}, {1, "\x01", 1}, {7, "\x7f", 7}, {8, "\xff", 8}, {8, "\x80", 1},
		{9, "\x00\x01", 1}, {10, "\x02\x02", 2}, {10, "\xff\x03", 10}, {16, "\x00\x80", 1},
	} {
		r, e := Of(c.n, []byte(c.b))
		if e != api.OK || r == nil || r.Len() != c.n || string(r.Bytes()) != c.b || r.Count() != c.count {
			t.Errorf("Of(%d, %x): %v", c.n, c.b, e)
		}
	}
	if r, e := Of(0, nil); e != api.OK || r.Len() != 0 || len(r.Bytes()) != 0 {
		t.Error("no bits", e)
	}
	full := bytes.Repeat([]byte{255}, 512)
	if r, e := Of(4096, full); e != api.OK || r.Count() != 4096 || !r.Get(4095) || r.First(7) != -1 {
		t.Error("4096 bits", e)
	}
}

// P1.1: Of with numbers that are no row's come first, then bytes that are no row's.
func TestOfWrong(t *testing.T) {
	for _, n := range odd {
		for _, b := range [][]byte{nil, {0}, make([]byte, 512), make([]byte, 513)} {
			if r, e := Of(n, b); r != nil || e != api.ErrArg {
				t.Errorf("Of(%d, %d bytes): %v", n, len(b), e)
			}
		}
	}
	for _, c := range []struct {
		n int
		b string
	}{
		{0, "\x00"}, {0, "a"}, {1, ""}, {1, "\x02"}, {1, "\x80"}, {1, "\x00\x00"}, {7, "\x80"},
		{8, ""}, {8, "\x00\x00"}, {9, "\xff"}, {9, "\x00\x02"}, {10, "\x00\x04"}, {10, "\xff\x07"},
		{10, "\x02"}, {10, "\x02\x02\x00"}, {15, "\x00\x80"}, {16, "\x00"}, {16, "\x00\x00\x00"},
	} {
		if r, e := Of(c.n, []byte(c.b)); r != nil || e != api.ErrForm {
			t.Errorf("Of(%d, %x): %v", c.n, c.b, e)
		}
	}
	for _, size := range []int{0, 511, 513, 4096} {
		if r, e := Of(4096, make([]byte, size)); r != nil || e != api.ErrForm {
			t.Errorf("Of(4096, %d bytes): %v", size, e)
		}
	}
}

// P1.1: each unused bit of the last byte alone makes the bytes no row's.
func TestOfUnused(t *testing.T) {
	for n := 1; n <= 64; n++ {
		for i := range (n + 7) / 8 * 8 {
			b := make([]byte, (n+7)/8)
			b[i/8] = byte(pow2(i % 8))
			want := api.OK
			if i >= n {
				want = api.ErrForm
			}
			if _, e := Of(n, b); e != want {
				t.Errorf("Of(%d, %x): %v", n, b, e)
			}
		}
	}
}

// P1.1: Set changes its bit alone, to on and back, and again to what it is.
func TestSet(t *testing.T) {
	for _, n := range []int{1, 8, 10, 17} {
		for _, rest := range []bool{false, true} {
			model := make([]bool, n)
			for i := range model {
				model[i] = rest
			}
			r := rowOf(t, model)
			for i := range n {
				for _, on := range []bool{true, true, false, false, rest} {
					model[i] = on
					if e := r.Set(i, on); e != api.OK {
						t.Fatalf("Set(%d, %v): %v", i, on, e)
					}
					compare(t, r, model)
				}
			}
		}
	}
}

// P1.1: a bit that is not there is not 1, and cannot be set; nothing is changed by trying.
func TestNoSuchBit(t *testing.T) {
	for _, n := range []int{0, 1, 7, 8, 10, 4096} {
		r := New(n)
		for i := range n {
			r.Set(i, true)
		}
		before := r.Bytes()
		for _, i := range append([]int{n, n + 1, n + 6, n + 8}, odd...) {
			for _, on := range []bool{true, false} {
				if e := r.Set(i, on); e != api.ErrArg {
					t.Errorf("Set(%d, %v) of %d bits: %v", i, on, n, e)
				}
			}
			if r.Get(i) {
				t.Errorf("Get(%d) of %d bits", i, n)
			}
		}
		if r.Len() != n || r.Count() != n || !bytes.Equal(r.Bytes(), before) {
			t.Errorf("%d bits changed: %x", n, r.Bytes())
		}
	}
}

// P1.2: First and Run, at the ends of the greatest row.
func TestGreatestRow(t *testing.T) {
	r := New(4096)
	if r.First(4095) != 4095 || r.First(4096) != 0 || r.Run(4096) != 0 || r.Run(4097) != -1 {
		t.Error("empty")
	}
	r.Set(0, true)
	if r.First(0) != 1 || r.First(4096) != 1 || r.Run(4095) != 1 || r.Run(4096) != -1 {
		t.Error("first bit")
	}
	r.Set(4095, true)
	if r.First(4095) != 1 || r.First(4094) != 4094 || r.Run(4094) != 1 || r.Run(4095) != -1 {
		t.Error("both ends")
	}
	for i := 1; i < 4094; i++ {
		r.Set(i, true)
	}
	if r.First(0) != 4094 || r.First(4095) != 4094 || r.Run(1) != 4094 || r.Run(2) != -1 {
		t.Error("one left")
	}
	r.Set(4094, true)
	if r.First(0) != -1 || r.First(4095) != -1 || r.First(-1) != -1 || r.Run(1) != -1 || r.Count() != 4096 {
		t.Error("full")
	}
}

// P1.2: the document's example.
func TestExample(t *testing.T) {
	r := New(10)
	r.Set(1, true)
	r.Set(9, true)
	if string(r.Bytes()) != "\x02\x02" || r.First(1) != 2 || r.Run(3) != 2 {
		t.Errorf("%x", r.Bytes())
	}
}

// R1: a nil row answers zero values, and ErrArg.
func TestNilRow(t *testing.T) {
	var r *Row
	if r.Len() != 0 || len(r.Bytes()) != 0 || r.Count() != 0 {
		t.Error("a nil row has no bits")
	}
	for _, n := range append([]int{0, 1, 9}, odd...) {
		if r.Get(n) || r.Set(n, true) != api.ErrArg || r.Set(n, false) != api.ErrArg || r.First(n) != 0 || r.Run(n) != 0 {
			t.Error(n)
		}
	}
}

// A row that New did not make has no bits.
func TestZeroRow(t *testing.T) {
	r := new(Row)
	compare(t, r, nil)
	search(t, r, nil)
	if r.Get(0) || r.Set(0, true) != api.ErrArg {
		t.Error("a bit in the zero row")
	}
}

// R3: a row shares no memory with what it was made of, nor with what it told.
func TestNoSharing(t *testing.T) {
	whole := []byte{2, 2, 77, 78}
	given := whole[:2]
	r, e := Of(10, given)
	if e != api.OK {
		t.Fatal(e)
	}
	given[0] = 255
	if r.Get(0) {
		t.Error("Of keeps its argument")
	}
	r.Set(3, true)
	if !bytes.Equal(whole, []byte{255, 2, 77, 78}) {
		t.Errorf("an argument is changed: %x", whole)
	}
	told := r.Bytes()
	full := told[:cap(told)]
	for i := range full {
		full[i] = 255
	}
	if string(r.Bytes()) != "\x0a\x02" || r.Count() != 3 {
		t.Errorf("Bytes shares the row's memory: %x", r.Bytes())
	}
	first := r.Bytes()
	r.Set(0, true)
	if string(first) != "\x0a\x02" {
		t.Errorf("an answer changes afterwards: %x", first)
	}
}

// R2: rows do not hang on one another.
func TestRowsApart(t *testing.T) {
	a, b := New(10), New(10)
	a.Set(4, true)
	if b.Get(4) || b.Count() != 0 {
		t.Error("two rows share their bits")
	}
}
