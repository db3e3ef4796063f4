package geom

import (
	"math"
	"slices"
	"testing"
)

// odd holds numbers that are no size, no group and no block of a possible group, also cut to fewer bits or with a small number added.
var odd = []int{
	math.MinInt, math.MinInt + 1, math.MinInt + 64, -1 << 32, -1<<32 + 64, -1 << 31, -1 << 16,
	-832, -768, -128, -65, -64, -63, -12, -11, -2, -1,
	768 + 64, 1 << 16, 1<<16 + 64, 1<<31 - 1, 1 << 31, 1 << 32, 1<<32 + 1, 1<<32 + 64, 1<<32 + 768,
	math.MaxInt - 63, math.MaxInt - 1, math.MaxInt,
}

// layout says the document's words block by block: what stands in each of the 768 blocks of the greatest file system.
func layout() []string {
	var is []string
	for g := range 12 {
		if g == 0 {
			is = append(is, "first")
		}
		is = append(is, "descriptor", "owners")
		if g == 0 {
			is = append(is, slices.Repeat([]string{"journal"}, 40)...)
		}
		for len(is) < 64*g+63 {
			is = append(is, "open")
		}
		if g == 0 {
			is = append(is, "copy")
		} else {
			is = append(is, "open")
		}
	}
	return is
}

func count(is []string, what string) int {
	n := 0
	for _, s := range is {
		if s == what {
			n++
		}
	}
	return n
}

// sizes holds each valid size, the smallest first, written out.
var sizes = []int{64, 128, 192, 256, 320, 384, 448, 512, 576, 640, 704, 768}

// The model of these tests is a greatest file system as the document draws it.
func TestLayout(t *testing.T) {
	is := layout()
	if len(is) != 768 || count(is, "first") != 1 || count(is, "copy") != 1 || count(is, "journal") != 40 ||
		count(is, "descriptor") != 12 || count(is, "owners") != 12 || is[3] != "journal" || is[42] != "journal" || is[63] != "copy" {
		t.Fatal(is)
	}
}

// P4.1, the size: whole groups, from 1 to 12 of them; no other number from far below 0 to far beyond.
func TestSizes(t *testing.T) {
	for blocks := -2000; blocks <= 3000; blocks++ {
		// No size stands at -1 in the list: it has no groups.
		groups := slices.Index(sizes, blocks) + 1
		if Formed(blocks) != (groups > 0) {
			t.Errorf("Formed(%d): %v", blocks, Formed(blocks))
		}
		if Groups(blocks) != groups {
			t.Errorf("Groups(%d): %d, not %d", blocks, Groups(blocks), groups)
		}
	}
}

// P4.1, the size: the edges that the document names.
func TestSizeEdges(t *testing.T) {
	for _, c := range []struct{ blocks, groups, open, room int }{
		{0, 0, 0, 0}, {1, 0, 0, 0}, {63, 0, 0, 0}, {64, 1, 20, 14}, {65, 0, 0, 0}, {96, 0, 0, 0},
		{127, 0, 0, 0}, {128, 2, 82, 76}, {129, 0, 0, 0}, {192, 3, 144, 138},
		{704, 11, 640, 634}, {767, 0, 0, 0}, {768, 12, 702, 696}, {769, 0, 0, 0}, {832, 0, 0, 0},
		{-1, 0, 0, 0}, {-64, 0, 0, 0}, {-128, 0, 0, 0}, {-768, 0, 0, 0},
	} {
		if Formed(c.blocks) != (c.groups > 0) || Groups(c.blocks) != c.groups || Open(c.blocks) != c.open || Room(c.blocks) != c.room {
			t.Errorf("%d: %v, %d groups, %d open, room of %d", c.blocks,
				Formed(c.blocks), Groups(c.blocks), Open(c.blocks), Room(c.blocks))
		}
	}
}

// P4.1, the size: numbers that are no size have no groups, no open blocks and no room.
func TestWrongSizes(t *testing.T) {
	for _, blocks := range odd {
		if Formed(blocks) || Groups(blocks) != 0 || Open(blocks) != 0 || Room(blocks) != 0 {
			t.Errorf("%d: %v, %d groups, %d open, room of %d", blocks,
				Formed(blocks), Groups(blocks), Open(blocks), Room(blocks))
		}
	}
}

// P4.1, Group: each block of the possible groups, by counting.
func TestGroup(t *testing.T) {
	n := 0
	for g := range 12 {
		for range 64 {
			if Group(n) != g {
				t.Errorf("Group(%d): %d, not %d", n, Group(n), g)
			}
			n++
		}
	}
}

// P4.1, Group: the ends of groups, after the last possible one, too, and negative numbers.
func TestGroupEdges(t *testing.T) {
	for _, c := range []struct{ n, g int }{
		{0, 0}, {63, 0}, {64, 1}, {127, 1}, {128, 2}, {703, 10}, {704, 11}, {767, 11},
		{768, 12}, {831, 12}, {832, 13}, {1 << 32, 1 << 26}, {math.MaxInt - 63, math.MaxInt / 64}, {math.MaxInt, math.MaxInt / 64},
		{-1, -1}, {-2, -1}, {-63, -1}, {-64, -1}, {-65, -1}, {-128, -1}, {-768, -1}, {-1 << 32, -1},
		{math.MinInt, -1}, {math.MinInt + 1, -1},
	} {
		if Group(c.n) != c.g {
			t.Errorf("Group(%d): %d, not %d", c.n, Group(c.n), c.g)
		}
	}
}

// P4.1, Desc and Owners: the only blocks of their kind in each group.
func TestDescOwners(t *testing.T) {
	is := layout()
	for g := range 12 {
		at := 64 * g
		part := is[at : at+64]
		if want := at + slices.Index(part, "descriptor"); Desc(g) != want {
			t.Errorf("Desc(%d): %d, not %d", g, Desc(g), want)
		}
		if want := at + slices.Index(part, "owners"); Owners(g) != want {
			t.Errorf("Owners(%d): %d, not %d", g, Owners(g), want)
		}
	}
}

// P4.1, Desc and Owners: the first, the second and the last groups, written out.
func TestDescOwnersEdges(t *testing.T) {
	for _, c := range []struct{ g, desc, owners int }{
		{0, 1, 2}, {1, 64, 65}, {2, 128, 129}, {10, 640, 641}, {11, 704, 705},
		{12, -1, -1}, {13, -1, -1}, {64, -1, -1}, {-1, -1, -1},
	} {
		if Desc(c.g) != c.desc || Owners(c.g) != c.owners {
			t.Errorf("%d: %d, %d", c.g, Desc(c.g), Owners(c.g))
		}
	}
}

// P4.1, Desc and Owners: no group of any file system, also where a product would wrap round into one.
func TestNoSuchGroup(t *testing.T) {
	wrong := []int{12, 13, 63, 64, 1 << 26, 1<<26 + 1, 1 << 58, 1<<58 + 1, -1 << 58, 1<<57 + 1, -1<<57 + 1}
	for _, g := range append(wrong, odd...) {
		if Desc(g) != -1 || Owners(g) != -1 {
			t.Errorf("%d: %d, %d", g, Desc(g), Owners(g))
		}
	}
}

// P4.1, Copy: the last block of group 0, a fixed one, and the only such.
func TestCopy(t *testing.T) {
	if Copy() != 63 || Copy() != slices.Index(layout(), "copy") {
		t.Error(Copy())
	}
	if Group(Copy()) != 0 || Group(Copy()+1) != 1 || !Fixed(Copy()) || Fixed(Copy()-1) {
		t.Error("the copy's place")
	}
	for g := 1; g < 12; g++ {
		if Fixed(64*g + 63) {
			t.Errorf("Fixed(%d): there is no copy in group %d", 64*g+63, g)
		}
	}
}

// P4.1, Fixed: each block of the possible groups.
func TestFixed(t *testing.T) {
	for n, what := range layout() {
		if Fixed(n) != (what != "open") {
			t.Errorf("Fixed(%d): %v, but it is: %s", n, Fixed(n), what)
		}
	}
}

// P4.1, Fixed: the ends of what is fixed, of the first and the last groups, written out, and the blocks beyond them.
func TestFixedEdges(t *testing.T) {
	for _, c := range []struct {
		n     int
		fixed bool
	}{
		{0, true}, {1, true}, {2, true}, {3, true}, {4, true}, {41, true}, {42, true}, {43, false}, {44, false}, {62, false}, {63, true},
		{64, true}, {65, true}, {66, false}, {67, false}, {106, false}, {126, false}, {127, false}, {128, true}, {129, true}, {130, false},
		{703, false}, {704, true}, {705, true}, {706, false}, {766, false}, {767, false},
		{768, false}, {769, false}, {770, false}, {831, false}, {832, false}, {833, false},
	} {
		if Fixed(c.n) != c.fixed {
			t.Errorf("Fixed(%d): %v", c.n, Fixed(c.n))
		}
	}
	for _, n := range append([]int{1<<32 + 63, -1<<32 + 2}, odd...) {
		if Fixed(n) {
			t.Errorf("Fixed(%d)", n)
		}
	}
	for n := 1; n <= 2000; n++ {
		if Fixed(-n) || Fixed(767+n) {
			t.Errorf("Fixed(%d) or Fixed(%d)", -n, 767+n)
		}
	}
}

// P4.1, Open and Room: of each size, the open blocks counted one by one, and these less the six of the table.
func TestOpenRoom(t *testing.T) {
	is := layout()
	for _, blocks := range sizes {
		open := count(is[:blocks], "open")
		if Open(blocks) != open || Room(blocks) != open-6 {
			t.Errorf("%d blocks: %d open, room of %d; there are %d", blocks, Open(blocks), Room(blocks), open)
		}
	}
}

// P4.1, Open and Room: no other number has any.
func TestOpenRoomOfNoSize(t *testing.T) {
	for blocks := -2000; blocks <= 3000; blocks++ {
		if !slices.Contains(sizes, blocks) && (Open(blocks) != 0 || Room(blocks) != 0) {
			t.Errorf("%d blocks: %d open, room of %d", blocks, Open(blocks), Room(blocks))
		}
	}
}

// P4.1: the fixed and the open blocks together are all blocks.
func TestFixedAndOpen(t *testing.T) {
	for _, blocks := range sizes {
		fixed := 0
		for n := range blocks {
			if Fixed(n) {
				fixed++
			}
		}
		if fixed+Open(blocks) != blocks {
			t.Errorf("%d blocks: %d fixed, %d open", blocks, fixed, Open(blocks))
		}
	}
}

// P4.1: where the calls speak of one place, they agree.
func TestAgreement(t *testing.T) {
	for _, blocks := range sizes {
		for g := range Groups(blocks) {
			if Group(Desc(g)) != g || Group(Owners(g)) != g || !Fixed(Desc(g)) || !Fixed(Owners(g)) || Owners(g) >= blocks {
				t.Errorf("group %d of %d blocks: %d, %d", g, blocks, Desc(g), Owners(g))
			}
		}
		if Group(blocks-1) != Groups(blocks)-1 {
			t.Errorf("the last block of %d is in group %d of %d", blocks, Group(blocks-1), Groups(blocks))
		}
	}
}

// P4.1: the chapter's examples.
func TestExamples(t *testing.T) {
	if Open(64) != 20 || Room(128) != 76 {
		t.Errorf("Open(64) is %d, and Room(128) is %d", Open(64), Room(128))
	}
}

// R2: a call answers the same again, whatever was asked between.
func TestAgain(t *testing.T) {
	tell := func() []int {
		var told []int
		for n := -100; n <= 900; n++ {
			told = append(told, Groups(n), Group(n), Desc(n), Owners(n), Copy(), Open(n), Room(n))
		}
		return told
	}
	first := tell()
	for _, n := range odd {
		Formed(n)
		Groups(n)
		Group(n)
		Desc(n)
		Owners(n)
		Fixed(n)
		Open(n)
		Room(n)
	}
	if !slices.Equal(first, tell()) {
		t.Error("an answer changed")
	}
}
