package mem_test

import (
	"math"
	"slices"
	"testing"

	"corral/api"
	"corral/mem"
)

const ones = 0xFFFFFFFF

// sizes is every size about those that there are, and such as are one of them but for bits far up.
func sizes() []int {
	l := []int{math.MinInt, math.MinInt32, math.MaxInt32, math.MaxInt, 1<<32 + 1, 1<<32 + 2, 1<<32 + 4, 1<<8 + 1, 1<<16 + 4, 1 << 32, 32, 64}
	for n := -17; n <= 17; n++ {
		l = append(l, n)
	}
	return l
}

// addresses is every one in and beside a memory of n bytes, and such as are in it but for bits far up.
func addresses(n int) []uint32 {
	l := []uint32{0x7FFFFFFF, 0x80000000, 0x80000004, 1 << 16, 1<<16 + 4, 1 << 24, 1 << 28, 0x40000000}
	for a := range n + 40 {
		l = append(l, uint32(a), ones-uint32(a))
	}
	return l
}

// model is a memory as the chapter tells of it: its bytes, one by one.
type model []byte

func newModel(bytes int, words ...uint32) model {
	m := make(model, bytes)
	for i, w := range words {
		for k := range 4 {
			m[4*i+k] = byte(w >> (8 * k))
		}
	}
	return m
}

// may tells whether an access may be at addr in so many bytes.
func may(bytes uint64, addr uint32, size int) bool {
	if size != 1 && size != 2 && size != 4 {
		return false
	}
	n := uint64(size)
	return uint64(addr)%n == 0 && uint64(addr)+n <= bytes
}

func (m model) has(addr uint32, size int) bool { return may(uint64(len(m)), addr, size) }

func (m model) load(addr uint32, size int) (uint32, bool) {
	if !m.has(addr, size) {
		return 0, false
	}
	var v uint32
	for k := size - 1; k >= 0; k-- {
		v = v*256 + uint32(m[int(addr)+k])
	}
	return v, true
}

func (m model) store(addr uint32, size int, v uint32) bool {
	if !m.has(addr, size) {
		return false
	}
	for k := range size {
		m[int(addr)+k] = byte(v)
		v /= 256
	}
	return true
}

func (m model) line(i int) api.Line {
	var l api.Line
	for k := range l {
		l[k], _ = m.load(uint32(16*i+4*k), 4)
	}
	return l
}

func (m model) setLine(i int, l api.Line) {
	for k, w := range l {
		m.store(uint32(16*i+4*k), 4, w)
	}
}

// bytesOf is a line as a model of its own.
func bytesOf(l api.Line) model { return newModel(16, l[:]...) }

// made is a memory that begins with these words, and its model.
func made(t *testing.T, bytes int, words ...uint32) (*mem.Memory, model) {
	t.Helper()
	m, err := mem.New(bytes, words...)
	if err != nil || m == nil {
		t.Fatalf("New(%d, %d words): %v", bytes, len(words), err)
	}
	return m, newModel(bytes, words...)
}

// filled is a memory and its model; bytes near each other differ.
func filled(t *testing.T, bytes int) (*mem.Memory, model) {
	t.Helper()
	var words []uint32
	for i := range bytes / 4 {
		words = append(words, 0x04030201+0x04040404*uint32(i))
	}
	return made(t, bytes, words...)
}

// check holds all bytes of m against the model.
func check(t *testing.T, m *mem.Memory, want model, what string) {
	t.Helper()
	if got := m.Bytes(); got != len(want) {
		t.Fatalf("%s: %d bytes, not %d", what, got, len(want))
	}
	for a, b := range want {
		if v, is := m.Load(uint32(a), 1); v != uint32(b) || !is {
			t.Fatalf("%s: byte %#x is %#x %v, not %#x", what, a, v, is, b)
		}
	}
}

func TestExamples(t *testing.T) { // P7.1
	m, _ := made(t, 16, 0x04030201)
	for _, x := range []struct {
		addr uint32
		size int
		want uint32
		is   bool
	}{{1, 1, 2, true}, {2, 2, 0x0403, true}, {16, 4, 0, false}, {1, 2, 0, false}} {
		if v, is := m.Load(x.addr, x.size); v != x.want || is != x.is {
			t.Errorf("Load(%d, %d) is %#x %v, not %#x %v", x.addr, x.size, v, is, x.want, x.is)
		}
	}
}

// newError is what New says of these, by the chapter's order.
func newError(bytes, words int) error {
	if bytes < 16 || bytes > 65536 || bytes%16 != 0 {
		return api.ErrRange
	}
	if 4*words > bytes {
		return api.ErrMany
	}
	return nil
}

func TestNewErrors(t *testing.T) { // P7.1: ErrRange ahead of ErrMany; nothing beside an error
	bytes := []int{math.MinInt, math.MinInt + 16, math.MinInt32, -65536, math.MaxInt32, math.MaxInt, math.MaxInt - 15, 1 << 17, 1 << 32, 1<<32 + 16, 1<<33 + 65536}
	for n := -100; n <= 65536+100; n++ {
		if n < 300 || n > 65536-300 {
			bytes = append(bytes, n)
		}
	}
	for _, n := range bytes {
		for _, words := range []int{0, 1, 3, 4, 5, 8, 9, max(0, min(n, 65536)/4), max(0, min(n, 65536)/4) + 1, 16384, 16385, 20000} {
			m, err := mem.New(n, make([]uint32, words)...)
			if want := newError(n, words); err != want || (m == nil) != (want != nil) {
				t.Fatalf("New(%d, %d words) is %v %v, not %v", n, words, m != nil, err, want)
			}
		}
	}
}

func TestNewTold(t *testing.T) { // P7.1: the edges, in numbers
	for _, x := range []struct {
		bytes, words int
		want         error
	}{
		{16, 0, nil}, {16, 4, nil}, {16, 5, api.ErrMany}, {15, 0, api.ErrRange}, {15, 5, api.ErrRange}, {0, 0, api.ErrRange}, {0, 1, api.ErrRange}, {-16, 0, api.ErrRange},
		{17, 0, api.ErrRange}, {20, 0, api.ErrRange}, {24, 7, api.ErrRange}, {31, 0, api.ErrRange}, {32, 8, nil}, {32, 9, api.ErrMany}, {48, 12, nil},
		{65536, 16384, nil}, {65536, 16385, api.ErrMany}, {65535, 0, api.ErrRange}, {65537, 0, api.ErrRange}, {65552, 0, api.ErrRange}, {65552, 30000, api.ErrRange},
	} {
		if _, err := mem.New(x.bytes, make([]uint32, x.words)...); err != x.want {
			t.Errorf("New(%d, %d words) is %v, not %v", x.bytes, x.words, err, x.want)
		}
	}
}

func TestNewBeginsWithItsWords(t *testing.T) { // P7.1: the lowest byte first, then 0
	for _, bytes := range []int{16, 32, 48, 4096, 65536} {
		for _, n := range []int{0, 1, 2, 3, 4, 5, 7, 8, 9, bytes/4 - 1, bytes / 4} {
			if n > bytes/4 {
				continue
			}
			words := make([]uint32, n)
			for i := range words {
				words[i] = 0x9E3779B9*uint32(i) + 0x80402010
			}
			m, want := made(t, bytes, words...)
			check(t, m, want, "a new one")
		}
	}
	m, _ := made(t, 32, 0xA4A3A2A1, 0, 0, 0, 0xB4B3B2B1)
	want := model{0xA1, 0xA2, 0xA3, 0xA4, 15: 0, 16: 0xB1, 17: 0xB2, 18: 0xB3, 19: 0xB4, 31: 0}
	check(t, m, want, "in numbers")
}

func TestNewKeepsNothing(t *testing.T) { // P0.4, for P7.1
	room := []uint32{1, 2, 3, 4, 0xDEADBEEF, 0xDEADBEEF}
	words := room[:4]
	m, want := made(t, 32, words...)
	check(t, m, want, "behind its words nothing is read")
	m.Store(0, 4, ones)
	m.SetLine(0, api.Line{9, 9, 9, 9})
	m.SetLine(1, api.Line{9, 9, 9, 9})
	if !slices.Equal(room, []uint32{1, 2, 3, 4, 0xDEADBEEF, 0xDEADBEEF}) {
		t.Errorf("what was handed in is %#x", room)
	}
	m, want = made(t, 32, words...)
	for i := range room {
		room[i] = 7
	}
	check(t, m, want, "behind what was written into the words")
	if a, _ := made(t, 16, nil...); !a.Same(first(mem.New(16, []uint32{}...))) {
		t.Error("no words and none at all differ")
	}
}

// first is the memory beside no error.
func first(m *mem.Memory, _ error) *mem.Memory { return m }

func TestHasAndLoad(t *testing.T) { // P7.1: at each address and size in and beside the memory
	for _, bytes := range []int{16, 32, 48, 256} {
		m, want := filled(t, bytes)
		for _, addr := range addresses(bytes) {
			for _, size := range sizes() {
				if got := m.Has(addr, size); got != want.has(addr, size) {
					t.Fatalf("%d bytes: Has(%#x, %d) is %v", bytes, addr, size, got)
				}
				v, is := want.load(addr, size)
				if got, there := m.Load(addr, size); got != v || there != is {
					t.Fatalf("%d bytes: Load(%#x, %d) is %#x %v, not %#x %v", bytes, addr, size, got, there, v, is)
				}
			}
		}
		check(t, m, want, "looked at")
	}
}

func TestHasTold(t *testing.T) { // P7.1: the edges, in numbers
	m, _ := made(t, 65536)
	for _, x := range []struct {
		addr uint32
		size int
		want bool
	}{
		{0, 1, true}, {0, 2, true}, {0, 4, true}, {1, 1, true}, {1, 2, false}, {1, 4, false}, {2, 2, true}, {2, 4, false}, {3, 1, true}, {3, 2, false}, {3, 4, false}, {6, 4, false},
		{65535, 1, true}, {65534, 2, true}, {65532, 4, true}, {65535, 2, false}, {65534, 4, false}, {65533, 4, false}, {65536, 1, false}, {65536, 2, false}, {65536, 4, false},
		{0, 0, false}, {0, 3, false}, {0, 8, false}, {0, 16, false}, {0, -1, false}, {0, -4, false}, {0, 1<<32 + 4, false},
		{ones, 1, false}, {0xFFFFFFFE, 2, false}, {0xFFFFFFFC, 4, false}, {0x80000000, 4, false}, {0x40000000, 4, false},
	} {
		if got := m.Has(x.addr, x.size); got != x.want {
			t.Errorf("Has(%#x, %d) is %v", x.addr, x.size, got)
		}
		if v, is := m.Load(x.addr, x.size); v != 0 || is != x.want {
			t.Errorf("Load(%#x, %d) is %#x %v", x.addr, x.size, v, is)
		}
		if is := m.Store(x.addr, x.size, 0); is != x.want {
			t.Errorf("Store(%#x, %d) is %v", x.addr, x.size, is)
		}
	}
}

func TestStore(t *testing.T) { // P7.1: these bytes alone, v's lowest; where Has is false nothing changes
	for _, bytes := range []int{16, 48} {
		for _, v := range []uint32{0, ones, 0xA4A3A2A1, 0xFFFFFF00, 0xFFFF0000, 0x80, 0x8000} {
			for _, addr := range addresses(bytes) {
				for _, size := range sizes() {
					m, want := filled(t, bytes)
					is := want.store(addr, size, v)
					if got := m.Store(addr, size, v); got != is {
						t.Fatalf("%d bytes: Store(%#x, %d) is %v", bytes, addr, size, got)
					}
					check(t, m, want, "stored")
				}
			}
		}
	}
}

// wrongLines is the numbers of lines that a memory of n lines has not.
func wrongLines(n int) []int {
	return []int{-1, -2, -n, n, n + 1, 4 * n, 16 * n, math.MinInt, math.MinInt32, math.MaxInt32, math.MaxInt, 1 << 16, 1 << 28, 1 << 32, 1<<32 + 1, 1 << 40, math.MinInt + 1}
}

func TestLines(t *testing.T) { // P7.1: Line and SetLine, at each place and beside
	for _, n := range []int{1, 2, 3, 16, 4096} {
		m, want := filled(t, 16*n)
		for i := range n {
			if l, is := m.Line(i); l != want.line(i) || !is {
				t.Fatalf("Line(%d) is %#x %v, not %#x", i, l, is, want.line(i))
			}
		}
		for _, i := range wrongLines(n) {
			if l, is := m.Line(i); l != (api.Line{}) || is {
				t.Errorf("%d lines: Line(%d) is %#x %v", n, i, l, is)
			}
			if m.SetLine(i, api.Line{ones, ones, ones, ones}) {
				t.Errorf("%d lines: SetLine(%d) is true", n, i)
			}
		}
		check(t, m, want, "behind wrong lines")
		for _, i := range []int{0, 1, n / 2, n - 1} {
			if i >= n {
				continue
			}
			l := api.Line{0xA4A3A2A1, ones, 0, 0x80000001 + uint32(i)}
			want.setLine(i, l)
			if !m.SetLine(i, l) {
				t.Errorf("%d lines: SetLine(%d) is false", n, i)
			}
			check(t, m, want, "behind SetLine")
		}
	}
	m, _ := made(t, 32)
	m.SetLine(1, api.Line{0x04030201, 5, 6, 0x100F0E0D})
	if v, is := m.Load(17, 1); v != 2 || !is {
		t.Errorf("%#x %v", v, is)
	}
	if v, is := m.Load(30, 2); v != 0x100F || !is {
		t.Errorf("%#x %v", v, is)
	}
}

func TestLineIsACopy(t *testing.T) { // P0.4, for P7.1
	m, want := filled(t, 32)
	l, _ := m.Line(1)
	l[0] = ones
	check(t, m, want, "behind what was written into a line that was told")
	m.SetLine(1, l)
	want.setLine(1, l)
	l[1] = ones
	check(t, m, want, "behind what was written into a line that was set")
}

func TestClone(t *testing.T) { // P7.1: one of its own, both ways
	changes := []func(m *mem.Memory, w model){
		func(m *mem.Memory, w model) { m.Store(0, 4, ones); w.store(0, 4, ones) },
		func(m *mem.Memory, w model) { m.Store(47, 1, 0); w.store(47, 1, 0) },
		func(m *mem.Memory, w model) { m.SetLine(0, api.Line{}); w.setLine(0, api.Line{}) },
		func(m *mem.Memory, w model) { m.SetLine(2, api.Line{7}); w.setLine(2, api.Line{7}) },
	}
	for _, change := range changes {
		m, want := filled(t, 48)
		c := m.Clone()
		check(t, c, want, "a clone")
		old := slices.Clone(want)
		change(m, want)
		check(t, m, want, "changed")
		check(t, c, old, "its clone")
		m, want = filled(t, 48)
		c = m.Clone()
		other := slices.Clone(want)
		change(c, other)
		check(t, c, other, "a clone, changed")
		check(t, m, want, "what it was made of")
		d := c.Clone()
		change(m, want)
		check(t, d, other, "a clone's clone")
		if d == c || c == m {
			t.Error("a clone is what it was made of")
		}
	}
}

func TestSame(t *testing.T) { // P7.1: as long, and the same bytes
	a, _ := filled(t, 48)
	if !a.Same(a) || !a.Same(a.Clone()) || !a.Clone().Same(a) {
		t.Error("not the same as itself")
	}
	for addr := range 48 {
		for bit := range 8 {
			b := a.Clone()
			v, _ := b.Load(uint32(addr), 1)
			b.Store(uint32(addr), 1, v^1<<bit)
			if a.Same(b) || b.Same(a) {
				t.Errorf("the same, but for bit %d of byte %d", bit, addr)
			}
			b.Store(uint32(addr), 1, v)
			if !a.Same(b) || !b.Same(a) {
				t.Errorf("not the same when byte %d is back", addr)
			}
		}
	}
	for _, words := range [][]uint32{nil, {1, 2, 3}} {
		short, _ := made(t, 32, words...)
		long, _ := made(t, 48, words...)
		alike, _ := made(t, 32, words...)
		if short.Same(long) || long.Same(short) {
			t.Error("the same, but for the length")
		}
		if !short.Same(alike) || !alike.Same(short) {
			t.Error("not the same, with the same words")
		}
	}
}

func TestLineOf(t *testing.T) { // P7.2
	for addr, want := range map[uint32]int{0: 0, 1: 0, 15: 0, 16: 1, 17: 1, 31: 1, 32: 2, 255: 15, 256: 16, 65535: 4095, 65536: 4096, 0x40000000: 0x4000000, 0x7FFFFFFF: 0x7FFFFFF, 0x80000000: 0x8000000, 0xFFFFFFEF: 0xFFFFFFE, 0xFFFFFFF0: 0xFFFFFFF, ones: 0xFFFFFFF} {
		if got := mem.LineOf(addr); got != want {
			t.Errorf("LineOf(%#x) is %#x, not %#x", addr, got, want)
		}
	}
	for i := range 4096 {
		for k := range uint32(16) {
			if got := mem.LineOf(uint32(i)*16 + k); got != i {
				t.Fatalf("LineOf(%#x) is %d", uint32(i)*16+k, got)
			}
		}
	}
}

// lineAddresses is each place in a line, of lines near and far.
func lineAddresses() []uint32 {
	var l []uint32
	for _, base := range []uint32{0, 16, 0x1000, 0xFFF0, 0x10000, 0x40000000, 0x7FFFFFF0, 0x80000000, 0xFFFFFFF0} {
		for k := range uint32(16) {
			l = append(l, base+k)
		}
	}
	return l
}

// lines is some without a pattern, and none and all of their bits.
func lines() []api.Line {
	return []api.Line{{}, {ones, ones, ones, ones}, {0x04030201, 0x08070605, 0x0C0B0A09, 0x100F0E0D}, {0x84838281, 0x7F80FF01, 0xDEADBEEF, 0x80000001}}
}

func TestPart(t *testing.T) { // P7.2: at each place and size; 0 of what is no access
	for _, l := range lines() {
		was := l
		for _, addr := range lineAddresses() {
			for _, size := range sizes() {
				var want uint32
				if may(1<<32, addr, size) {
					want, _ = bytesOf(l).load(addr%16, size)
				}
				if got := mem.Part(l, addr, size); got != want {
					t.Fatalf("Part(%#x, %#x, %d) is %#x, not %#x", l, addr, size, got, want)
				}
			}
		}
		if l != was {
			t.Errorf("the line is %#x", l)
		}
	}
}

func TestPartTold(t *testing.T) { // P7.2: in numbers
	l := api.Line{0x04030201, 0x08070605, 0x0C0B0A09, 0x100F0E0D}
	for _, x := range []struct {
		addr uint32
		size int
		want uint32
	}{
		{0, 1, 1}, {1, 1, 2}, {15, 1, 0x10}, {0, 2, 0x0201}, {2, 2, 0x0403}, {14, 2, 0x100F}, {4, 4, 0x08070605}, {12, 4, 0x100F0E0D}, {0x1234, 4, 0x08070605}, {0xFFFFFFFC, 4, 0x100F0E0D}, {ones, 1, 0x10},
		{1, 2, 0}, {3, 2, 0}, {1, 4, 0}, {2, 4, 0}, {3, 4, 0}, {0, 0, 0}, {0, 3, 0}, {0, 5, 0}, {0, 8, 0}, {0, 16, 0}, {0, -1, 0}, {0, 1<<32 + 1, 0},
	} {
		if got := mem.Part(l, x.addr, x.size); got != x.want {
			t.Errorf("Part(%#x, %d) is %#x, not %#x", x.addr, x.size, got, x.want)
		}
	}
}

func TestWith(t *testing.T) { // P7.2: these bytes alone; the line of what is no access; the line that was handed in stays
	for _, l := range lines() {
		was := l
		for _, addr := range lineAddresses() {
			for _, size := range sizes() {
				for _, v := range []uint32{0, ones, 0xA4A3A2A1, 0xFFFFFF00, 0xFFFF0000} {
					b := bytesOf(l)
					if may(1<<32, addr, size) {
						b.store(addr%16, size, v)
					}
					got := mem.With(l, addr, size, v)
					if want := b.line(0); got != want {
						t.Fatalf("With(%#x, %#x, %d, %#x) is %#x, not %#x", l, addr, size, v, got, want)
					}
				}
			}
		}
		if l != was {
			t.Errorf("the line is %#x", l)
		}
	}
}

func TestWithTold(t *testing.T) { // P7.2: in numbers
	l := api.Line{0x04030201, 0x08070605, 0x0C0B0A09, 0x100F0E0D}
	for _, x := range []struct {
		addr uint32
		size int
		want api.Line
	}{
		{0, 1, api.Line{0x040302DD, 0x08070605, 0x0C0B0A09, 0x100F0E0D}},
		{15, 1, api.Line{0x04030201, 0x08070605, 0x0C0B0A09, 0xDD0F0E0D}},
		{0x16, 2, api.Line{0x04030201, 0xCCDD0605, 0x0C0B0A09, 0x100F0E0D}},
		{0xFFFFFFF8, 4, api.Line{0x04030201, 0x08070605, 0xAABBCCDD, 0x100F0E0D}},
		{1, 2, l}, {2, 4, l}, {0, 0, l}, {0, 3, l}, {0, 8, l}, {0, 16, l}, {0, -4, l}, {0, 1<<32 + 4, l},
	} {
		if got := mem.With(l, x.addr, x.size, 0xAABBCCDD); got != x.want {
			t.Errorf("With(%#x, %d) is %#x, not %#x", x.addr, x.size, got, x.want)
		}
	}
}

func TestLinesAndMemory(t *testing.T) { // P7.1, P7.2: Load is Part of the line, Store With
	m, want := filled(t, 64)
	for addr := range uint32(64) {
		for _, size := range []int{1, 2, 4} {
			if !m.Has(addr, size) {
				continue
			}
			l, _ := m.Line(mem.LineOf(addr))
			if v, _ := m.Load(addr, size); v != mem.Part(l, addr, size) {
				t.Errorf("Load(%#x, %d) is %#x, Part %#x", addr, size, v, mem.Part(l, addr, size))
			}
			c := m.Clone()
			c.Store(addr, size, 0xA4A3A2A1)
			o := m.Clone()
			o.SetLine(mem.LineOf(addr), mem.With(l, addr, size, 0xA4A3A2A1))
			if !c.Same(o) {
				t.Errorf("Store(%#x, %d) is not With", addr, size)
			}
		}
	}
	check(t, m, want, "looked at")
}

func TestLongRuns(t *testing.T) { // P7.1: calls in a row, wrong ones among them, in memories that stand side by side
	seed := uint32(1)
	next := func(n uint32) uint32 {
		seed = seed*1664525 + 1013904223
		return seed >> 8 % n
	}
	type pair struct {
		m *mem.Memory
		w model
	}
	var l []pair
	for _, bytes := range []int{16, 16, 64, 64, 4096, 4096} {
		m, w := filled(t, bytes)
		l = append(l, pair{m, w})
	}
	for range 20000 {
		k := next(uint32(len(l)))
		// Beside each one stands one as long, that it may become the same as.
		p, o := &l[k], l[k^1]
		addr, size, v := next(uint32(len(p.w))+20), int(next(6)), next(1<<24)*257
		i := int(next(uint32(len(p.w)/16+3))) - 1
		switch next(12) {
		case 0:
			*p = pair{o.m.Clone(), slices.Clone(o.w)}
		case 1, 2:
			line := api.Line{v, ^v, v * 3, v * 5}
			is := i >= 0 && i < len(p.w)/16
			if p.m.SetLine(i, line) != is {
				t.Fatalf("SetLine(%d) is not %v", i, is)
			}
			if is {
				p.w.setLine(i, line)
			}
		case 3:
			far := l[next(uint32(len(l)))]
			if got := p.m.Same(far.m); got != slices.Equal(p.w, far.w) {
				t.Fatalf("Same is %v", got)
			}
		case 4:
			if got := p.m.Same(o.m); got != slices.Equal(p.w, o.w) {
				t.Fatalf("Same is %v", got)
			}
		default:
			if got := p.m.Store(addr, size, v); got != p.w.store(addr, size, v) {
				t.Fatalf("Store(%#x, %d) is %v", addr, size, got)
			}
		}
		want, is := p.w.load(addr, size)
		if got, there := p.m.Load(addr, size); got != want || there != is {
			t.Fatalf("Load(%#x, %d) is %#x %v, not %#x %v", addr, size, got, there, want, is)
		}
	}
	for _, p := range l {
		check(t, p.m, p.w, "at the end")
	}
}
