package pte_test

import (
	"math"
	"slices"
	"testing"

	"corral/api"
	"corral/pte"
)

const ones = 0xFFFFFFFF

// The flags in numbers, so that a wrong one of the package's is seen.
const (
	v = 1 << iota
	r
	w
	x
	u
	g
	a
	d
)

// pages is what may lie above the flags: none, all, each bit alone, and mixtures.
func pages() []uint32 {
	l := []uint32{0, 5, 0x155555, 0x2AAAAA, 1<<22 - 1}
	for i := range 22 {
		l = append(l, 1<<i)
	}
	return l
}

// entries is all flags (the two that have no name too), each with all pages.
func entries() []uint32 {
	var l []uint32
	for _, page := range pages() {
		for f := range uint32(1 << 10) {
			l = append(l, page*1024+f)
		}
	}
	return l
}

// numbers is every number about the accesses and modes, and such as are one of them but for bits far up.
func numbers() []int {
	l := []int{math.MinInt, math.MinInt32, math.MaxInt32, math.MaxInt, math.MinInt + 1, math.MinInt + 3, 12, 13, 15}
	for _, up := range []int{8, 16, 31, 32, 62} {
		for n := range 4 {
			l = append(l, 1<<up+n, -1<<up+n)
		}
	}
	for n := -9; n <= 9; n++ {
		l = append(l, n)
	}
	return l
}

// has tells whether e has that flag, by division.
func has(e uint32, flag uint32) bool { return e/flag%2 == 1 }

func wantLeaf(e uint32) bool { return has(e, 2) || has(e, 8) }

func wantBad(e uint32) bool {
	switch {
	case !has(e, 1):
		return true
	case has(e, 4) && !has(e, 2):
		return true
	case wantLeaf(e):
		return false
	}
	return has(e, 16) || has(e, 64) || has(e, 128)
}

func wantMay(e uint32, access, mode int) bool {
	if wantBad(e) || !wantLeaf(e) {
		return false
	}
	var does bool
	switch access {
	case 1:
		does = has(e, 8)
	case 2:
		does = has(e, 2)
	case 3:
		does = has(e, 4)
	}
	return does && (mode == 0 && has(e, 16) || mode == 3 && !has(e, 16))
}

func wantNeeds(e uint32, access int) uint32 {
	if !has(e, 64) {
		e += 64
	}
	if access == 3 && !has(e, 128) {
		e += 128
	}
	return e
}

// wantMake sets the entry's bits one by one.
func wantMake(page uint32, flags []uint32) uint32 {
	var e uint32
	for i := range 22 {
		if has(page, 1<<i) {
			e += 1 << (10 + i)
		}
	}
	for i := range 10 {
		if slices.ContainsFunc(flags, func(f uint32) bool { return has(f, 1<<i) }) {
			e += 1 << i
		}
	}
	return e
}

func wantCause(access int, page bool) uint32 {
	switch {
	case access == 1 && page:
		return 12
	case access == 2 && page:
		return 13
	case access == 3 && page:
		return 15
	case access == 1:
		return 1
	case access == 2:
		return 5
	case access == 3:
		return 7
	}
	return 2
}

func TestExamples(t *testing.T) { // P8.1, P8.2
	if e := pte.Make(5, pte.V, pte.R, pte.A); e != 0x1443 {
		t.Errorf("Make(5, V, R, A): %#x", e)
	}
	if !pte.Bad(pte.V + pte.W) {
		t.Error("Bad(V + W): false")
	}
	if !pte.May(pte.Make(5, pte.V, pte.R, pte.U, pte.A), api.Load, api.User) {
		t.Error("May(Make(5, V, R, U, A), Load, User): false")
	}
}

func TestFlags(t *testing.T) { // P8.1: the constants at the chapter's head
	got := [8]uint32{pte.V, pte.R, pte.W, pte.X, pte.U, pte.G, pte.A, pte.D}
	want := [8]uint32{1, 2, 4, 8, 16, 32, 64, 128}
	if got != want {
		t.Errorf("V, R, W, X, U, G, A, D: %v, not %v", got, want)
	}
}

func TestBadAndLeaf(t *testing.T) { // P8.1: of all flags, whatever the page
	for _, e := range entries() {
		if got, want := pte.Bad(e), wantBad(e); got != want {
			t.Fatalf("Bad(%#x): %v", e, got)
		}
		if got, want := pte.Leaf(e), wantLeaf(e); got != want {
			t.Fatalf("Leaf(%#x): %v", e, got)
		}
	}
}

func TestBadTold(t *testing.T) { // P8.1: each cause of it alone, and what is none
	for _, c := range []struct {
		e   uint32
		bad bool
	}{
		{0, true},
		{ones, false},
		{ones - v, true},
		{0xFFFFFC00, true},
		{r, true},
		{x, true},
		{r | w | x | u | g | a | d, true},
		{v, false},
		{v | g, false},
		{v | 0x300, false},
		{v | w, true},
		{v | w | x, true},
		{v | w | x | a | d, true},
		{v | r | w, false},
		{v | r | w | x, false},
		{v | u, true},
		{v | a, true},
		{v | d, true},
		{v | u | a | d, true},
		{v | r | u, false},
		{v | r | a, false},
		{v | r | d, false},
		{v | x | u | a | d, false},
	} {
		if got := pte.Bad(c.e); got != c.bad {
			t.Errorf("Bad(%#x): %v", c.e, got)
		}
	}
}

func TestLeafTold(t *testing.T) { // P8.1: R or X, be it Bad or not
	for _, c := range []struct {
		e    uint32
		leaf bool
	}{
		{0, false},
		{v, false},
		{v | w, false},
		{v | w | u | g | a | d, false},
		{ones - r - x, false},
		{r, true},
		{x, true},
		{v | r, true},
		{v | x, true},
		{v | w | x, true},
		{ones, true},
	} {
		if got := pte.Leaf(c.e); got != c.leaf {
			t.Errorf("Leaf(%#x): %v", c.e, got)
		}
	}
}

func TestPage(t *testing.T) { // P8.1: bits 31 to 10, whatever the flags
	for _, e := range entries() {
		if got := pte.Page(e); got != e/1024 {
			t.Fatalf("Page(%#x): %#x", e, got)
		}
	}
	for e, want := range map[uint32]uint32{0x1443: 5, ones: 0x3FFFFF, 0x3FF: 0, 0x400: 1, 0x80000000: 0x200000, 0x7FFFFFFF: 0x1FFFFF} {
		if got := pte.Page(e); got != want {
			t.Errorf("Page(%#x): %#x", e, got)
		}
	}
}

func TestMay(t *testing.T) { // P8.1: all flags, at each access and mode and beside them
	for _, page := range []uint32{0, 5, 1<<22 - 1} {
		for f := range uint32(1 << 10) {
			e := page*1024 + f
			for _, access := range numbers() {
				for _, mode := range numbers() {
					if got, want := pte.May(e, access, mode), wantMay(e, access, mode); got != want {
						t.Fatalf("May(%#x, %d, %d): %v", e, access, mode, got)
					}
				}
			}
		}
	}
}

func TestMayTold(t *testing.T) { // P8.1: in what is asked for, flag by flag
	for _, c := range []struct {
		e            uint32
		access, mode int
		may          bool
	}{
		{v | x, api.Fetch, api.Machine, true},
		{v | x, api.Load, api.Machine, false},
		{v | x, api.Store, api.Machine, false},
		{v | r, api.Fetch, api.Machine, false},
		{v | r, api.Load, api.Machine, true},
		{v | r, api.Store, api.Machine, false},
		{v | r | w, api.Store, api.Machine, true},
		{v | r | w, api.Fetch, api.Machine, false},
		{v | w, api.Store, api.Machine, false},
		{v | w | x, api.Fetch, api.Machine, false},
		{v | w | x, api.Store, api.Machine, false},
		{r | w | x | u, api.Load, api.User, false},
		{v | r | w | x | u, api.Fetch, api.User, true},
		{v | r | w | x | u, api.Load, api.User, true},
		{v | r | w | x | u, api.Store, api.User, true},
		{v | r | w | x | u, api.Fetch, api.Machine, false},
		{v | r | w | x | u, api.Load, api.Machine, false},
		{v | r | w | x | u, api.Store, api.Machine, false},
		{v | r | w | x, api.Fetch, api.User, false},
		{v | r | w | x, api.Load, api.User, false},
		{v | r | w | x, api.Store, api.User, false},
		{v, api.Load, api.Machine, false},
		{v | u, api.Load, api.User, false},
		{ones, api.Store, api.User, true},
		{ones, 0, api.User, false},
		{ones, 4, api.User, false},
		{ones, -1, api.User, false},
		{ones, api.Load, 1, false},
		{ones, api.Load, 2, false},
		{ones, api.Load, 4, false},
		{ones - u, api.Load, 1, false},
		{ones - u, api.Load, 2, false},
		{ones - u, api.Load, -1, false},
	} {
		if got := pte.May(c.e, c.access, c.mode); got != c.may {
			t.Errorf("May(%#x, %d, %d): %v", c.e, c.access, c.mode, got)
		}
	}
}

func TestMayAsksNeitherAccessedNorDirty(t *testing.T) { // P8.1: what Needs sets is not asked for, nor G and the two bits without a name
	for _, f := range []uint32{0, g, a, d, a | d, 0x100, 0x200, g | a | d | 0x300} {
		if !pte.May(v|r|w|x|f, api.Store, api.Machine) || !pte.May(v|r|w|x|u|f, api.Store, api.User) {
			t.Errorf("May with %#x: false", f)
		}
	}
}

func TestNeeds(t *testing.T) { // P8.1: of any entry, a bad one too, and of any access; only Store asks D
	for _, e := range entries() {
		for _, access := range numbers() {
			if got, want := pte.Needs(e, access), wantNeeds(e, access); got != want {
				t.Fatalf("Needs(%#x, %d): %#x, not %#x", e, access, got, want)
			}
		}
	}
}

func TestNeedsTold(t *testing.T) { // P8.1: in numbers
	for _, c := range []struct {
		e      uint32
		access int
		want   uint32
	}{
		{0x1403, api.Load, 0x1443},
		{0x1403, api.Fetch, 0x1443},
		{0x1403, api.Store, 0x14C3},
		{0x1483, api.Load, 0x14C3},
		{0x14C3, api.Store, 0x14C3},
		{0, api.Fetch, 0x40},
		{0, api.Store, 0xC0},
		{ones, api.Store, ones},
		{0x1403, 0, 0x1443},
		{0x1403, 4, 0x1443},
		{0x1403, -3, 0x1443},
	} {
		if got := pte.Needs(c.e, c.access); got != c.want {
			t.Errorf("Needs(%#x, %d): %#x", c.e, c.access, got)
		}
	}
}

func TestMake(t *testing.T) { // P8.2: each bit of the page and of the flags, in and past what is taken
	words := []uint32{0, ones, 0x3FF, 0x400, 0x3FFFFF, 0x400000, 0xFFC00000, 0xFFFFFC00, 0x55555555, 0xAAAAAAAA}
	for i := range 32 {
		words = append(words, 1<<i)
	}
	for _, page := range words {
		if got, want := pte.Make(page), wantMake(page, nil); got != want {
			t.Fatalf("Make(%#x): %#x, not %#x", page, got, want)
		}
		for _, f := range words {
			for _, l := range [][]uint32{{f}, {f, 0x11}, {0x22, f, f}, {f, 0x44, 0x108, f ^ 0x200}} {
				if got, want := pte.Make(page, l...), wantMake(page, l); got != want {
					t.Fatalf("Make(%#x, %#x): %#x, not %#x", page, l, got, want)
				}
			}
		}
	}
}

func TestMakeTold(t *testing.T) { // P8.2: in numbers
	for _, c := range []struct {
		page  uint32
		flags []uint32
		want  uint32
	}{
		{0, nil, 0},
		{1, nil, 0x400},
		{1, []uint32{}, 0x400},
		{1<<22 - 1, nil, 0xFFFFFC00},
		{1 << 22, nil, 0},
		{1<<22 + 5, []uint32{v}, 0x1401},
		{ones, []uint32{ones}, ones},
		{0, []uint32{ones}, 0x3FF},
		{0, []uint32{0x400, 0xFFFFFC00}, 0},
		{0, []uint32{0x200, 0x100}, 0x300},
		{0, []uint32{v, r, w, x, u, g, a, d}, 0xFF},
		{0, []uint32{v, v}, 1},
		{0, []uint32{v | r, r | w}, 7},
		{0, []uint32{0, 0, d}, 0x80},
		{0, []uint32{d, 0, 0}, 0x80},
	} {
		if got := pte.Make(c.page, c.flags...); got != c.want {
			t.Errorf("Make(%#x, %#x): %#x", c.page, c.flags, got)
		}
	}
}

func TestMakeManyFlags(t *testing.T) { // P8.2: all of them, however many
	l := make([]uint32, 100000)
	l[0], l[50000], l[99999] = v, r, a
	if got := pte.Make(5, l...); got != 0x1443 {
		t.Errorf("Make of %d flags: %#x", len(l), got)
	}
}

func TestMakeLeavesItsFlags(t *testing.T) { // P0.4, for P8.2: neither changed nor read behind their length
	all := []uint32{v, r | 0xFFFFFC00, a, d, 0x300}
	kept := slices.Clone(all)
	if got := pte.Make(5, all[:3]...); got != 0x1443 {
		t.Errorf("Make with spare room: %#x", got)
	}
	if !slices.Equal(all, kept) {
		t.Errorf("the flags are %#x, not %#x", all, kept)
	}
}

func TestMakeAndPage(t *testing.T) { // P8.1, P8.2: Page is the way back from Make
	for _, page := range pages() {
		for _, f := range []uint32{0, v, ones} {
			if got := pte.Page(pte.Make(page, f)); got != page {
				t.Errorf("Page(Make(%#x, %#x)): %#x", page, f, got)
			}
		}
	}
	for _, e := range entries() {
		if got := pte.Make(pte.Page(e), e); got != e {
			t.Fatalf("Make(Page(%#x), %#x): %#x", e, e, got)
		}
	}
}

func TestCause(t *testing.T) { // P8.2: each access, and those that are none
	for _, access := range numbers() {
		for _, page := range []bool{false, true} {
			if got, want := pte.Cause(access, page), wantCause(access, page); got != want {
				t.Errorf("Cause(%d, %v): %d, not %d", access, page, got, want)
			}
		}
	}
}

func TestCauseTold(t *testing.T) { // P8.2: by name
	for _, c := range []struct {
		access       int
		page, beside uint32
	}{
		{api.Fetch, api.InstPage, api.InstAccess},
		{api.Load, api.LoadPage, api.LoadAccess},
		{api.Store, api.StorePage, api.StoreAccess},
		{0, api.Illegal, api.Illegal},
		{4, api.Illegal, api.Illegal},
		{-1, api.Illegal, api.Illegal},
	} {
		if got := pte.Cause(c.access, true); got != c.page {
			t.Errorf("Cause(%d, true): %d", c.access, got)
		}
		if got := pte.Cause(c.access, false); got != c.beside {
			t.Errorf("Cause(%d, false): %d", c.access, got)
		}
	}
}
