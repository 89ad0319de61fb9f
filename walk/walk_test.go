package walk_test

import (
	"math"
	"slices"
	"testing"

	"corral/api"
	"corral/pte"
	"corral/walk"
)

const (
	ones = 0xFFFFFFFF
	root = 0x80000001 // paged, the table of level 1 at 4096
	room = 65536
)

const v, r, w, x, u, g, a, d = pte.V, pte.R, pte.W, pte.X, pte.U, pte.G, pte.A, pte.D

// full is all that a leaf of User may have.
const full = v | r | w | x | u | a | d

// asks is the arguments of Next.
type asks struct {
	satp          uint32
	mode          int
	va            uint32
	access, bytes int
	read          []api.Pte
}

func (q asks) next() walk.Step {
	return walk.Next(q.satp, q.mode, q.va, q.access, q.bytes, q.read...)
}

// with is the same, with these entries read.
func (q asks) with(read ...api.Pte) asks {
	q.read = read
	return q
}

// p is an entry that was read.
func p(addr, page uint32, flags ...uint32) api.Pte {
	return api.Pte{Addr: addr, Value: pte.Make(page, flags...)}
}

func here(pa uint32) walk.Step   { return walk.Step{Kind: 1, PA: pa} }
func fault(by uint32) walk.Step  { return walk.Step{Kind: 2, Cause: by} }
func more(addr uint32) walk.Step { return walk.Step{Kind: 3, Addr: addr} }
func mark(addr, value uint32) walk.Step {
	return walk.Step{Kind: 4, Addr: addr, Value: value}
}

// byPage and byPlace are the two faults of an access, in numbers.
func byPage(access int) walk.Step {
	switch access {
	case 1, 2:
		return fault(11 + uint32(access))
	case 3:
		return fault(15)
	}
	return fault(2)
}

func byPlace(access int) walk.Step {
	switch access {
	case 1, 2, 3:
		return []walk.Step{fault(1), fault(5), fault(7)}[access-1]
	}
	return fault(2)
}

// has tells whether e has that flag, by division.
func has(e, flag uint32) bool { return e/flag%2 == 1 }

// wantEntry is where the entry lies, by division, and whether it is in memory.
func (q asks) wantEntry(page uint64, span uint64) (uint64, bool) {
	addr := page*4096 + uint64(q.va)/span%1024*4
	return addr, addr < 1<<32 && q.bytes > 0 && addr+3 < uint64(q.bytes)
}

// wantLeaf is what comes of a leaf that has so many bytes (span).
func (q asks) wantLeaf(e api.Pte, span uint64) walk.Step {
	f, page := e.Value, uint64(e.Value/1024)
	does := q.access == 1 && has(f, x) || q.access == 2 && has(f, r) || q.access == 3 && has(f, w)
	if !does || q.mode != 0 || !has(f, u) || page*4096%span != 0 {
		return byPage(q.access)
	}
	if !has(f, a) {
		f += a
	}
	if q.access == 3 && !has(f, d) {
		f += d
	}
	if f != e.Value {
		return mark(e.Addr, f)
	}
	if page >= 1<<20 {
		return byPlace(q.access)
	}
	return here(uint32(page*4096 + uint64(q.va)%span))
}

// wantAt is the way from the table at that page on, and what is left of the entries behind it.
func (q asks) wantAt(page, span uint64, read []api.Pte) (walk.Step, []api.Pte) {
	addr, in := q.wantEntry(page, span)
	if !in {
		return byPlace(q.access), read
	}
	if len(read) == 0 {
		return more(uint32(addr)), nil
	}
	e, rest := read[0], read[1:]
	f := e.Value
	leaf := has(f, r) || has(f, x)
	bad := !has(f, v) || has(f, w) && !has(f, r) || !leaf && (has(f, u) || has(f, a) || has(f, d))
	switch {
	case uint64(e.Addr) != addr || bad:
		return byPage(q.access), rest
	case leaf:
		return q.wantLeaf(e, span), rest
	case span == 4096:
		return byPage(q.access), rest
	}
	return q.wantAt(uint64(f/1024), 4096, rest)
}

// want is what Next has to answer, reckoned in a way of its own.
func (q asks) want() walk.Step {
	step, rest := here(q.va), q.read
	if q.wantEntries() == 2 {
		step, rest = q.wantAt(uint64(q.satp%(1<<22)), 1<<22, q.read)
	}
	if len(rest) > 0 {
		return byPage(q.access)
	}
	return step
}

func (q asks) wantEntries() int {
	if q.mode == 3 || q.satp < 1<<31 {
		return 0
	}
	return 2
}

// check holds Next and Entries against the reckoning.
func check(t *testing.T, q asks) {
	t.Helper()
	if got, want := q.next(), q.want(); got != want {
		t.Fatalf("Next of %+v: %+v, not %+v", q, got, want)
	}
	if got, want := walk.Entries(q.satp, q.mode), q.wantEntries(); got != want {
		t.Fatalf("Entries(%#x, %d): %d, not %d", q.satp, q.mode, got, want)
	}
}

// words is none, all, each bit alone, each bit lacking, and mixtures.
func words() []uint32 {
	l := []uint32{0, ones, 0x1234, 0x00401234, 0x12345678, 0x55555555, 0xAAAAAAAA}
	for i := range 32 {
		l = append(l, 1<<i, ones-1<<i)
	}
	return l
}

// numbers is every number about the accesses and modes, and such as are one of them but for bits far up.
func numbers() []int {
	l := []int{math.MinInt, math.MinInt + 3, math.MinInt32, math.MaxInt32, math.MaxInt}
	for _, up := range []int{8, 16, 32, 62} {
		for n := range 4 {
			l = append(l, 1<<up+n, -1<<up+n)
		}
	}
	for n := -4; n <= 8; n++ {
		l = append(l, n)
	}
	return l
}

// sizes is how many bytes a memory may have, about a word's at addr and far from it.
func sizes(addr int) []int {
	l := []int{math.MinInt, -1 << 32, -4097, -1, 0, 1, 3, 4, 16, 4096, room, 1 << 31, 1 << 32, 1<<32 + 4, 1 << 34, 1<<34 + 4096, math.MaxInt}
	for n := -5; n <= 9; n++ {
		l = append(l, addr+n)
	}
	return l
}

// user is a load by User, through the tables.
func user() asks { return asks{satp: root, mode: 0, va: 0x1234, access: 2, bytes: room} }

func TestExamples(t *testing.T) { // P9.1
	if got := walk.Next(0, api.User, 0x1234, api.Load, 4096); got != here(0x1234) {
		t.Errorf("not paged: %+v", got)
	}
	if got := walk.Next(0x80000001, api.User, 0x1234, api.Load, 65536); got != more(4096) {
		t.Errorf("none read: %+v", got)
	}
	e := api.Pte{Addr: 4096, Value: pte.Make(2, pte.V)}
	if got := walk.Next(0x80000001, api.User, 0x1234, api.Load, 65536, e); got != more(8192+4) {
		t.Errorf("one read: %+v", got)
	}
}

func TestKinds(t *testing.T) { // P9.1: the constants at the chapter's head
	got := [4]int{walk.Here, walk.Fault, walk.More, walk.Mark}
	if want := [4]int{1, 2, 3, 4}; got != want {
		t.Errorf("Here, Fault, More, Mark: %v", got)
	}
}

func TestEntries(t *testing.T) { // P9.2: every mode, and each bit of satp
	for _, satp := range words() {
		for _, mode := range numbers() {
			q := asks{satp: satp, mode: mode}
			if got, want := walk.Entries(satp, mode), q.wantEntries(); got != want {
				t.Errorf("Entries(%#x, %d): %d, not %d", satp, mode, got, want)
			}
		}
	}
}

func TestEntriesTold(t *testing.T) { // P9.2: in numbers; where the tables lie isn't looked at
	for _, c := range []struct {
		satp uint32
		mode int
		want int
	}{
		{0, api.User, 0}, {0, api.Machine, 0}, {0x7FFFFFFF, api.User, 0}, {0x7FFFFFFF, api.Machine, 0},
		{0x80000000, api.User, 2}, {root, api.User, 2}, {0x803FFFFF, api.User, 2}, {ones, api.User, 2},
		{0x80000000, api.Machine, 0}, {root, api.Machine, 0}, {ones, api.Machine, 0},
		{root, 1, 2}, {root, 2, 2}, {root, 4, 2}, {root, -1, 2}, {1, 1, 0},
	} {
		if got := walk.Entries(c.satp, c.mode); got != c.want {
			t.Errorf("Entries(%#x, %d): %d, not %d", c.satp, c.mode, got, c.want)
		}
	}
}

func TestNotPaged(t *testing.T) { // P9.1: Machine, or bit 31 of satp 0: Here, whatever the access and the memory
	for _, va := range words() {
		for _, satp := range words() {
			for _, access := range []int{-1, 0, 1, 2, 3, 4} {
				for _, bytes := range []int{math.MinInt, -1, 0, 16, room, math.MaxInt} {
					q := asks{satp: satp, mode: 3, va: va, access: access, bytes: bytes}
					if got := q.next(); got != here(va) {
						t.Fatalf("Machine, %+v: %+v", q, got)
					}
					q.mode, q.satp = 0, satp%(1<<31)
					if got := q.next(); got != here(va) {
						t.Fatalf("bit 31 is 0, %+v: %+v", q, got)
					}
					if got := q.with(p(4096, 2, v)).next(); got != byPage(access) {
						t.Fatalf("with an entry, %+v: %+v", q, got)
					}
				}
			}
		}
	}
}

func TestFirstEntryAsked(t *testing.T) { // P9.1: each bit of satp and of va, and memories that end about the entry
	for _, satp := range words() {
		for _, va := range words() {
			q := asks{satp: satp | 1<<31, va: va, access: 2}
			addr := int(satp%(1<<22))*4096 + int(va>>22)*4
			for _, bytes := range sizes(addr) {
				q.bytes = bytes
				check(t, q)
			}
		}
	}
}

func TestFirstEntryTold(t *testing.T) { // P9.1: in numbers
	for _, c := range []struct {
		satp, va uint32
		bytes    int
		want     walk.Step
	}{
		{0x80000000, 0, 4, more(0)},
		{0x80000000, 0, 3, fault(5)},
		{0x80000000, 0, 0, fault(5)},
		{0x80000000, 0, -1, fault(5)},
		{0x80000000, 0, math.MinInt, fault(5)},
		{root, 0x003FFFFF, room, more(4096)},
		{root, 0x00400000, room, more(4100)},
		{root, 0xFFFFFFFF, room, more(8188)},
		{root, 0xFFC00000, 8192, more(8188)},
		{root, 0xFFC00000, 8191, fault(5)},
		{root, 0x1234, 4096, fault(5)},
		{root, 0x1234, 4099, fault(5)},
		{root, 0x1234, 4100, more(4096)},
		{0x8000000F, ones, room, more(65532)},
		{0x80000010, 0, room, fault(5)},
		{0xFFC00001, 0, room, more(4096)},
		{0x800FFFFF, ones, math.MaxInt, more(0xFFFFFFFC)},
		{0x800FFFFF, ones, 1 << 32, more(0xFFFFFFFC)},
		{0x800FFFFF, ones, 1<<32 - 1, fault(5)},
		{0x80100000, 0, math.MaxInt, fault(5)},
		{0x80100001, 0, math.MaxInt, fault(5)},
		{0x803FFFFF, ones, math.MaxInt, fault(5)},
	} {
		q := asks{satp: c.satp, va: c.va, access: api.Load, bytes: c.bytes}
		if got := q.next(); got != c.want {
			t.Errorf("%+v: %+v, not %+v", q, got, c.want)
		}
	}
}

func TestSecondEntryAsked(t *testing.T) { // P9.1: each bit of the page above and of va
	for _, word := range words() {
		for _, va := range words() {
			q := asks{satp: root, va: va, access: 3}
			page := word % (1 << 22)
			q.read = []api.Pte{p(4096+va>>22*4, page, v, g)}
			addr := int(page)*4096 + int(va>>12%1024)*4
			for _, bytes := range sizes(addr) {
				q.bytes = bytes
				check(t, q)
			}
		}
	}
}

func TestSecondEntryTold(t *testing.T) { // P9.1: in numbers
	for _, c := range []struct {
		va, page uint32
		bytes    int
		want     walk.Step
	}{
		{0x00000FFF, 2, room, more(8192)},
		{0x00001000, 2, room, more(8196)},
		{0x003FFFFF, 2, room, more(12284)},
		{0x003FF000, 2, 12284, fault(7)},
		{0x003FF000, 2, 12287, fault(7)},
		{0x003FF000, 2, 12288, more(12284)},
		{0x1234, 0, room, more(4)},
		{0x1234, 1, room, more(4100)},
		{0x1234, 15, room, more(61444)},
		{0x1234, 16, room, fault(7)},
		{0x003FF000, 0xFFFFF, 1 << 32, more(0xFFFFFFFC)},
		{0, 0x100000, math.MaxInt, fault(7)},
		{0x1234, 0x100001, math.MaxInt, fault(7)},
		{0x1234, 0x3FFFFF, math.MaxInt, fault(7)},
	} {
		q := asks{satp: root, va: c.va, access: api.Store, bytes: c.bytes, read: []api.Pte{p(4096, c.page, v)}}
		if got := q.next(); got != c.want {
			t.Errorf("%+v: %+v, not %+v", q, got, c.want)
		}
	}
}

func TestFlagsOfEntries(t *testing.T) { // P9.1: all flags, at both levels, of each access and mode and beside them
	for f := range uint32(1 << 10) {
		for _, access := range numbers() {
			for _, mode := range []int{0, 1, 2, 3, 4, -1, 1 << 32, 1<<32 + 3} {
				q := user()
				q.mode, q.access = mode, access
				check(t, q.with(p(4096, 0, f)))
				check(t, q.with(p(4096, 1024, f)))
				check(t, q.with(p(4096, 2, f)))
				check(t, q.with(p(4096, 2, v), p(8196, 3, f)))
				check(t, q.with(p(4096, 2, f), p(8196, 3, full)))
			}
		}
	}
}

func TestPagesOfLeaves(t *testing.T) { // P9.1: each bit of a leaf's page and of va, at both levels, marked or not
	for _, word := range words() {
		for _, va := range words() {
			q := user()
			q.va = va
			first, second := 4096+va>>22*4, 8192+va>>12%1024*4
			for _, f := range []uint32{full, full - a, full - d, full - u} {
				for _, page := range []uint32{word % (1 << 22), word % (1 << 20), word % (1 << 12) << 10} {
					check(t, q.with(p(first, page, f)))
					check(t, q.with(p(first, 2, v), p(second, page, f)))
				}
			}
		}
	}
}

func TestLeavesTold(t *testing.T) { // P9.1: Here, in numbers
	table := p(4096, 2, v)
	for _, c := range []struct {
		va   uint32
		read []api.Pte
		want walk.Step
	}{
		{0x1234, []api.Pte{table, p(8196, 3, full)}, here(0x3234)},
		{0x1FFF, []api.Pte{table, p(8196, 3, full)}, here(0x3FFF)},
		{0x1000, []api.Pte{table, p(8196, 0, full)}, here(0)},
		{0x1234, []api.Pte{table, p(8196, 0x40000, full)}, here(0x40000234)},
		{0x1FFF, []api.Pte{table, p(8196, 0xFFFFF, full)}, here(ones)},
		{0x1FFF, []api.Pte{table, p(8196, 0x100000, full)}, fault(5)},
		{0x1000, []api.Pte{table, p(8196, 0x100000, full)}, fault(5)},
		{0x1000, []api.Pte{table, p(8196, 0x3FFFFF, full)}, fault(5)},
		{0x1234, []api.Pte{p(4096, 0, full)}, here(0x1234)},
		{0x003FFFFF, []api.Pte{p(4096, 0, full)}, here(0x3FFFFF)},
		{0x003FFFFF, []api.Pte{p(4096, 0x400, full)}, here(0x7FFFFF)},
		{0xFFFFFFFF, []api.Pte{p(8188, 0x400, full)}, here(0x7FFFFF)},
		{0x003FFFFF, []api.Pte{p(4096, 0xFFC00, full)}, here(ones)},
		{0, []api.Pte{p(4096, 0x100000, full)}, fault(5)},
		{0x003FFFFF, []api.Pte{p(4096, 0x3FFC00, full)}, fault(5)},
		{0, []api.Pte{p(4096, 1, full)}, fault(13)},
		{0, []api.Pte{p(4096, 0x200, full)}, fault(13)},
		{0, []api.Pte{p(4096, 0x3FF, full)}, fault(13)},
		{0, []api.Pte{p(4096, 0x7FF, full)}, fault(13)},
	} {
		q := user()
		q.va = c.va
		if got := q.with(c.read...).next(); got != c.want {
			t.Errorf("%#x, %+v: %+v, not %+v", c.va, c.read, got, c.want)
		}
	}
}

func TestPlaceNeedsNoMemory(t *testing.T) { // P9.1: only the entries have to be in memory, not what they lead to
	q := asks{satp: 0x80000000, va: 0x5678, access: api.Load, bytes: 32}
	if got := q.with(p(0, 0, v), p(20, 9, full)).next(); got != here(0x9678) {
		t.Errorf("behind the end: %+v", got)
	}
	q.bytes = 4
	if got := q.with(p(0, 0x40000, full)).next(); got != here(0x40005678) {
		t.Errorf("far behind the end: %+v", got)
	}
}

func TestMarks(t *testing.T) { // P9.1: what Needs makes of a leaf, at both levels, with all that it has beside
	for _, c := range []struct {
		flags  uint32
		access int
		want   uint32 // 0: it is marked
	}{
		{v | r | u, api.Load, v | r | u | a},
		{v | r | u | d, api.Load, v | r | u | d | a},
		{v | r | u | a, api.Load, 0},
		{v | x | u, api.Fetch, v | x | u | a},
		{v | x | u | a, api.Fetch, 0},
		{v | r | w | u, api.Store, v | r | w | u | a | d},
		{v | r | w | u | a, api.Store, v | r | w | u | a | d},
		{v | r | w | u | d, api.Store, v | r | w | u | a | d},
		{v | r | w | u | a | d, api.Store, 0},
		{v | r | w | u | a, api.Load, 0},
		{v | r | u | g | 0x300, api.Load, v | r | u | g | 0x300 | a},
	} {
		q := user()
		q.access = c.access
		one, two := here(0x401234), here(0x3234)
		if c.want != 0 {
			one, two = mark(4096, 0x400*1024+c.want), mark(8196, 3*1024+c.want)
		}
		if got := q.with(p(4096, 0x400, c.flags)).next(); got != one {
			t.Errorf("level 1, %#x, access %d: %+v, not %+v", c.flags, c.access, got, one)
		}
		if got := q.with(p(4096, 2, v), p(8196, 3, c.flags)).next(); got != two {
			t.Errorf("level 0, %#x, access %d: %+v, not %+v", c.flags, c.access, got, two)
		}
	}
}

func TestWhatComesFirst(t *testing.T) { // P9.1: where several hold
	table := p(4096, 2, v)
	for _, c := range []struct {
		what string
		read []api.Pte
		want walk.Step
	}{
		{"unmarked, and past 32 bits, level 0", []api.Pte{table, p(8196, 0x100000, v, r, u)}, mark(8196, 0x40000053)},
		{"unmarked, and past 32 bits, level 1", []api.Pte{p(4096, 0x100000, v, r, u)}, mark(4096, 0x40000053)},
		{"unmarked, and no place for it", []api.Pte{p(4096, 1, v, r, u)}, fault(13)},
		{"past 32 bits, and no place for it", []api.Pte{p(4096, 0x100001, v, r, u, a)}, fault(13)},
		{"may not, and unmarked", []api.Pte{table, p(8196, 3, v, r)}, fault(13)},
		{"may not, and past 32 bits", []api.Pte{table, p(8196, 0x100000, v, x, u, a)}, fault(13)},
		{"bad, and leading past the memory", []api.Pte{p(4096, 16, v, u)}, fault(13)},
		{"bad, and past 32 bits", []api.Pte{table, p(8196, 0x3FFFFF, r, u, a)}, fault(13)},
		{"no leaf at level 0, and leading past the memory", []api.Pte{table, p(8196, 16, v)}, fault(13)},
		{"leading past the memory", []api.Pte{p(4096, 16, v)}, fault(5)},
	} {
		if got := user().with(c.read...).next(); got != c.want {
			t.Errorf("%s: %+v, not %+v", c.what, got, c.want)
		}
	}
}

func TestNoAccess(t *testing.T) { // P9.1: what is no access goes through the tables, and is Illegal in the end
	for _, access := range []int{0, 4, -1, math.MinInt, math.MaxInt, 1<<32 + 2} {
		q := user()
		q.access = access
		for _, c := range []struct {
			read []api.Pte
			want walk.Step
		}{
			{nil, more(4096)},
			{[]api.Pte{p(4096, 2, v)}, more(8196)},
			{[]api.Pte{p(4096, 16, v)}, fault(2)},
			{[]api.Pte{p(4100, 2, v)}, fault(2)},
			{[]api.Pte{p(4096, 0, full)}, fault(2)},
			{[]api.Pte{p(4096, 2, v), p(8196, 3, full)}, fault(2)},
			{[]api.Pte{p(4096, 2, v), p(8196, 3, full-a)}, fault(2)},
		} {
			if got := q.with(c.read...).next(); got != c.want {
				t.Errorf("access %d, %+v: %+v, not %+v", access, c.read, got, c.want)
			}
		}
	}
}

func TestOtherModes(t *testing.T) { // P9.1: what is neither mode is paged, and may do nothing
	for _, mode := range []int{1, 2, 4, -1, math.MinInt, math.MaxInt, 1 << 32, 1<<32 + 3} {
		q := user()
		q.mode = mode
		if got := q.next(); got != more(4096) {
			t.Errorf("mode %d: %+v", mode, got)
		}
		for _, f := range []uint32{full, full - u, full - a} {
			if got := q.with(p(4096, 0, f)).next(); got != fault(13) {
				t.Errorf("mode %d, %#x: %+v", mode, f, got)
			}
		}
	}
}

func TestAddressesOfEntries(t *testing.T) { // P9.1: each bit of Addr counts, at both levels, whatever the entry is
	for access := 0; access <= 4; access++ {
		q := user()
		q.access = access
		for i := range 32 {
			for _, e := range []api.Pte{p(4096^1<<i, 2, v), p(4096^1<<i, 0, full), p(4096^1<<i, 0, full-a), p(4096^1<<i, 16, v)} {
				if got := q.with(e).next(); got != byPage(access) {
					t.Errorf("level 1, %+v: %+v", e, got)
				}
			}
			for _, e := range []api.Pte{p(8196^1<<i, 3, full), p(8196^1<<i, 3, full-a), p(8196^1<<i, 0x100000, full)} {
				if got := q.with(p(4096, 2, v), e).next(); got != byPage(access) {
					t.Errorf("level 0, %+v: %+v", e, got)
				}
			}
		}
		if got := q.with(p(8196, 3, full), p(4096, 2, v)).next(); got != byPage(access) {
			t.Errorf("in another order: %+v", got)
		}
	}
}

func TestWhenAndHowIsNotLookedAt(t *testing.T) { // P9.1: of an entry Addr and Value alone
	for _, at := range []int{math.MinInt, -1, 0, 7, math.MaxInt} {
		for _, wrote := range []bool{false, true} {
			one, two := p(4096, 2, v), p(8196, 3, full)
			one.At, one.Wrote, one.Old = at, wrote, ones
			two.At, two.Wrote, two.Old = -at, !wrote, 5
			if got := user().with(one).next(); got != more(8196) {
				t.Errorf("%+v: %+v", one, got)
			}
			if got := user().with(one, two).next(); got != here(0x3234) {
				t.Errorf("%+v: %+v", two, got)
			}
		}
	}
}

func TestEntriesNotAskedFor(t *testing.T) { // P9.1: behind whatever came out else, by the page
	table := p(4096, 2, v)
	for what, q := range map[string]asks{
		"no memory":                  {satp: root, access: 2, bytes: 4096},
		"past 32 bits":               {satp: 0x803FFFFF, access: 2, bytes: math.MaxInt},
		"not paged":                  {satp: 1, access: 2, bytes: room},
		"Machine":                    {satp: root, mode: 3, access: 2, bytes: room},
		"here, level 1":              user().with(p(4096, 0, full)),
		"here, level 0":              user().with(table, p(8196, 3, full)),
		"mark, level 1":              user().with(p(4096, 0, full-a)),
		"mark, level 0":              user().with(table, p(8196, 3, full-a)),
		"past 32 bits, level 1":      user().with(p(4096, 0x100000, full)),
		"past 32 bits, level 0":      user().with(table, p(8196, 0x100000, full)),
		"a table that isn't there":   user().with(p(4096, 16, v)),
		"a table that can not be":    user().with(p(4096, 0x3FFFFF, v)),
		"bad":                        user().with(p(4096, 2, u)),
		"level 0 and no leaf":        user().with(table, p(8196, 2, v)),
		"another's address, level 1": user().with(p(4100, 2, v)),
	} {
		for access := 1; access <= 4; access++ {
			q.access = access
			check(t, q)
			for _, e := range []api.Pte{{}, table, p(8196, 3, full), p(12288, 4, full)} {
				for n := 1; n <= 3; n++ {
					more := slices.Concat(q.read, slices.Repeat([]api.Pte{e}, n))
					if got := q.with(more...).next(); got != byPage(access) {
						t.Errorf("%s, access %d, and %d more: %+v", what, access, n, got)
					}
				}
			}
		}
	}
}

func TestManyEntries(t *testing.T) { // P9.1: however many there are
	l := make([]api.Pte, 100000)
	l[0], l[1] = p(4096, 2, v), p(8196, 3, full)
	if got := user().with(l...).next(); got != fault(13) {
		t.Errorf("%d entries: %+v", len(l), got)
	}
	if got := user().with(l[:2]...).next(); got != here(0x3234) {
		t.Errorf("the first two: %+v", got)
	}
}

func TestNoneReadIsEmpty(t *testing.T) { // P0.4, for P9.1: nil and the empty list are the same
	q := user()
	for _, read := range [][]api.Pte{nil, {}, make([]api.Pte, 0, 4)} {
		if got := q.with(read...).next(); got != more(4096) {
			t.Errorf("%v: %+v", read, got)
		}
	}
}

func TestLeavesItsEntries(t *testing.T) { // P0.4, for P9.1: neither changed nor read behind their length
	all := []api.Pte{p(4096, 2, v), p(8196, 3, v, r, u), p(8196, 3, full)}
	kept := slices.Clone(all)
	for n, want := range []walk.Step{more(4096), more(8196), mark(8196, 0xC53), fault(13)} {
		for range 2 {
			if got := user().with(all[:n]...).next(); got != want {
				t.Errorf("%d entries: %+v, not %+v", n, got, want)
			}
		}
	}
	if !slices.Equal(all, kept) {
		t.Errorf("%+v, was %+v", all, kept)
	}
}

func TestWholeWalks(t *testing.T) { // P9.1, P9.2: a walk that reads and marks what it is asked for ends, by no more entries than Entries tells
	tables := map[uint32]uint32{4096: pte.Make(2, v), 4100: pte.Make(0x400, v, r, w, u), 8196: pte.Make(3, v, r, w, u), 8200: pte.Make(2, v, x, u)}
	for _, c := range []struct {
		va     uint32
		access int
		want   walk.Step
	}{
		{0x1234, 2, here(0x3234)}, {0x1234, 3, here(0x3234)}, {0x1234, 1, fault(12)}, {0x2FFC, 1, here(0x2FFC)}, {0x2FFC, 3, fault(15)},
		{0x00545678, 3, here(0x545678)}, {0x00545678, 1, fault(12)}, {0x3000, 2, fault(13)}, {0xFFFFFFFF, 2, fault(13)},
	} {
		q := user()
		q.va, q.access = c.va, c.access
		step := q.next()
		for tries := 0; step.Kind == walk.More || step.Kind == walk.Mark; tries++ {
			if tries > 3 || len(q.read) > walk.Entries(q.satp, q.mode) {
				t.Fatalf("%#x, access %d: no end", c.va, c.access)
			}
			if step.Kind == walk.Mark {
				tables[step.Addr] = step.Value
				q.read = q.read[:len(q.read)-1]
			}
			q.read = append(q.read, api.Pte{Addr: step.Addr, Value: tables[step.Addr]})
			step = q.next()
		}
		if step != c.want {
			t.Errorf("%#x, access %d: %+v, not %+v", c.va, c.access, step, c.want)
		}
	}
}

func TestManyWalks(t *testing.T) { // P9.1: entries of all kinds, most at the addresses that are asked for
	var seed uint64 = 1
	next := func(n int) int {
		seed = seed*6364136223846793005 + 1442695040888963407
		return int(seed>>33) % n
	}
	some := words()
	pick := func() uint32 { return some[next(len(some))] }
	seen := map[int]int{}
	for range 400000 {
		q := asks{satp: root, mode: []int{0, 0, 0, 0, 1, 3}[next(6)], va: pick(), access: next(5), bytes: []int{room, room, 8192, 12288, math.MaxInt, 4100}[next(6)]}
		if next(8) == 0 {
			q.satp = pick()
		}
		for range next(4) {
			e := p(q.next().Addr, uint32(next(20)), v, uint32(next(1024)))
			switch next(12) {
			case 0:
				e.Value = pick()
			case 1:
				e.Addr = pick()
			case 2, 3:
				e.Value = pte.Make(uint32(next(20)), full, uint32(next(1024)))
			case 4, 5:
				e.Value = pte.Make(uint32(next(20))<<10, full-a)
			case 6, 7, 8:
				e.Value = pte.Make(uint32(next(4)), v)
			}
			q.read = append(q.read, e)
		}
		check(t, q)
		seen[q.next().Kind]++
	}
	for kind := 1; kind <= 4; kind++ {
		if seen[kind] < 1000 {
			t.Errorf("kind %d came only %d times", kind, seen[kind])
		}
	}
}
