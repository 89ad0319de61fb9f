package word_test

import (
	"math"
	"math/big"
	"slices"
	"testing"

	"corral/word"
)

const (
	least = 0x80000000
	most  = 0x7FFFFFFF
	ones  = 0xFFFFFFFF
)

// words are values at and beside the edges of bytes, halves and words, and some without a pattern.
func words() []uint32 {
	l := []uint32{0xDEADBEEF, 0x12345678, 0xA5A5A5A5, 0x5A5A5A5A, 0x00FF00FF, 7, 10, 100}
	for n := range 32 {
		p := uint32(1) << n
		l = append(l, p, p-1, p+1, -p, ^p)
	}
	slices.Sort(l)
	return slices.Compact(l)
}

// counts are places and counts of bits, those out of a word and the farthest ones too.
func counts() []int {
	l := []int{math.MinInt, math.MinInt + 1, math.MinInt32, math.MaxInt32, math.MaxInt - 31, math.MaxInt - 1, math.MaxInt, 1 << 32, 1<<32 + 4, -1 << 32, 255, 256, -256}
	for n := -70; n <= 70; n++ {
		l = append(l, n)
	}
	return l
}

// bit is bit n of x, 0 where x has none.
func bit(x uint32, n int) uint32 {
	if n < 0 || n > 31 {
		return 0
	}
	return x / uint32(math.Pow(2, float64(n))) % 2
}

// fromBits is the word whose bit i is at(i).
func fromBits(at func(i int) uint32) uint32 {
	var w uint32
	for i := 31; i >= 0; i-- {
		w = 2*w + at(i)
	}
	return w
}

// number is what x stands for.
func number(x uint32, signed bool) *big.Int {
	n := new(big.Int).SetUint64(uint64(x))
	if signed && x >= least {
		n.Sub(n, new(big.Int).Lsh(big.NewInt(1), 32))
	}
	return n
}

// lowWord is the lowest 32 bits of n, wrapped.
func lowWord(n *big.Int) uint32 {
	return uint32(new(big.Int).And(n, big.NewInt(ones)).Uint64())
}

func TestSignTable(t *testing.T) { // P1.1
	for _, x := range []struct {
		x    uint32
		n    int
		want uint32
	}{
		{0x80, 8, 0xFFFFFF80}, {0x7F, 8, 0x7F}, {0xFFFFFF7F, 8, 0x7F}, {0x180, 8, 0xFFFFFF80},
		{0x800, 12, 0xFFFFF800}, {0x7FF, 12, 0x7FF}, {0x8000, 16, 0xFFFF8000}, {0x7FFF8000, 16, 0xFFFF8000},
		{1, 1, ones}, {0, 1, 0}, {0xFFFFFFFE, 1, 0}, {2, 2, 0xFFFFFFFE}, {1, 2, 1},
		{0x40000000, 31, 0xC0000000}, {0x3FFFFFFF, 31, 0x3FFFFFFF}, {0xBFFFFFFF, 31, 0x3FFFFFFF}, {least, 31, 0},
		{least, 32, least}, {most, 32, most}, {0xDEADBEEF, 32, 0xDEADBEEF}, {0xDEADBEEF, 33, 0xDEADBEEF}, {0xDEADBEEF, 64, 0xDEADBEEF},
		{ones, math.MaxInt, ones}, {1, math.MaxInt, 1},
		{ones, 0, 0}, {ones, -1, 0}, {ones, -32, 0}, {ones, math.MinInt, 0},
	} {
		if got := word.Sign(x.x, x.n); got != x.want {
			t.Errorf("Sign(%#x, %d): %#x, want %#x", x.x, x.n, got, x.want)
		}
	}
}

func TestSignBitByBit(t *testing.T) { // P1.1
	for _, x := range words() {
		for _, n := range counts() {
			want := uint32(0)
			if n >= 1 {
				top := min(n, 32) - 1
				want = fromBits(func(i int) uint32 { return bit(x, min(i, top)) })
			}
			if got := word.Sign(x, n); got != want {
				t.Fatalf("Sign(%#x, %d): %#x, want %#x", x, n, got, want)
			}
		}
	}
}

func TestBitsTable(t *testing.T) { // P1.1
	for _, x := range []struct {
		x      uint32
		low, n int
		want   uint32
	}{
		{0xDEADBEEF, 0, 4, 0xF}, {0xDEADBEEF, 8, 8, 0xBE}, {0xDEADBEEF, 16, 16, 0xDEAD}, {0xDEADBEEF, 28, 4, 0xD}, {0xDEADBEEF, 7, 5, 0x1D},
		{0xDEADBEEF, 0, 31, 0x5EADBEEF}, {0xDEADBEEF, 0, 32, 0xDEADBEEF}, {0xDEADBEEF, 0, 33, 0xDEADBEEF}, {0xDEADBEEF, 0, math.MaxInt, 0xDEADBEEF},
		{0xDEADBEEF, 1, 31, 0x6F56DF77}, {0xDEADBEEF, 1, 32, 0x6F56DF77},
		{0xDEADBEEF, 28, 5, 0xD}, {0xDEADBEEF, 28, 32, 0xD}, {0xDEADBEEF, 28, math.MaxInt, 0xD},
		{least, 31, 1, 1}, {least, 31, 2, 1}, {least, 31, math.MaxInt, 1}, {most, 31, 1, 0}, {least, 30, 1, 0},
		{ones, 32, 1, 0}, {ones, 33, 32, 0}, {ones, 64, 32, 0}, {ones, math.MaxInt, 1, 0}, {ones, math.MaxInt, math.MaxInt, 0},
		{ones, -1, 1, 0}, {ones, -1, 8, 0}, {ones, -1, 33, 0}, {ones, math.MinInt, math.MaxInt, 0},
		{ones, 0, 0, 0}, {ones, 0, -1, 0}, {ones, 31, 0, 0}, {ones, 4, -32, 0}, {ones, 4, math.MinInt, 0},
	} {
		if got := word.Bits(x.x, x.low, x.n); got != x.want {
			t.Errorf("Bits(%#x, %d, %d): %#x, want %#x", x.x, x.low, x.n, got, x.want)
		}
	}
}

func TestBitsBitByBit(t *testing.T) { // P1.1
	for _, x := range []uint32{0, 1, least, most, ones, 0xDEADBEEF, 0xA5A5A5A5} {
		for _, low := range counts() {
			for _, n := range counts() {
				want := uint32(0)
				if low >= 0 && low <= 31 {
					want = fromBits(func(i int) uint32 {
						if i >= n {
							return 0
						}
						return bit(x, low+i)
					})
				}
				if got := word.Bits(x, low, n); got != want {
					t.Fatalf("Bits(%#x, %d, %d): %#x, want %#x", x, low, n, got, want)
				}
			}
		}
	}
}

func field(low, n int, v uint32) word.Field { return word.Field{Low: low, N: n, V: v} }

func TestPackTable(t *testing.T) { // P1.1
	for i, x := range []struct {
		l    []word.Field
		want uint32
	}{
		{nil, 0}, {[]word.Field{}, 0}, {[]word.Field{{}}, 0},
		{[]word.Field{field(0, 7, 0x13), field(7, 5, 1)}, 0x93},
		{[]word.Field{field(7, 5, 1), field(0, 7, 0x13)}, 0x93},
		{[]word.Field{field(0, 8, 0xEF), field(8, 8, 0xBE), field(16, 8, 0xAD), field(24, 8, 0xDE)}, 0xDEADBEEF},
		// Of V no more than N bits are taken.
		{[]word.Field{field(4, 4, 0xFFFFFFFA)}, 0xA0}, {[]word.Field{field(0, 1, 0xFFFFFFFE)}, 0},
		{[]word.Field{field(0, 31, ones)}, most}, {[]word.Field{field(0, 32, ones)}, ones}, {[]word.Field{field(0, 33, ones)}, ones}, {[]word.Field{field(0, math.MaxInt, 0xDEADBEEF)}, 0xDEADBEEF},
		// What would lie above bit 31 goes.
		{[]word.Field{field(28, 8, 0xFA)}, 0xA0000000}, {[]word.Field{field(31, 1, 1)}, least}, {[]word.Field{field(31, 2, 2)}, 0}, {[]word.Field{field(31, math.MaxInt, 3)}, least}, {[]word.Field{field(4, 32, 0xDEADBEEF)}, 0xEADBEEF0},
		// Fields that lie across one another are or'ed, not written over.
		{[]word.Field{field(0, 8, 0xF0), field(4, 8, 0xF0)}, 0xFF0}, {[]word.Field{field(0, 8, 0x0F), field(0, 8, 0x35)}, 0x3F}, {[]word.Field{field(0, 8, 0xFF), field(0, 8, 0)}, 0xFF}, {[]word.Field{field(3, 4, 5), field(3, 4, 5)}, 5 << 3},
		// Fields that lie nowhere give nothing, and take nothing from the others.
		{[]word.Field{field(32, 1, 1)}, 0}, {[]word.Field{field(64, 32, ones)}, 0}, {[]word.Field{field(math.MaxInt, math.MaxInt, ones)}, 0},
		{[]word.Field{field(-1, 8, ones)}, 0}, {[]word.Field{field(math.MinInt, math.MaxInt, ones)}, 0},
		{[]word.Field{field(0, 0, ones)}, 0}, {[]word.Field{field(0, -1, ones)}, 0}, {[]word.Field{field(3, math.MinInt, ones)}, 0},
		{[]word.Field{field(0, 4, 5), field(32, 4, 15), field(-4, 8, 0xFF), field(8, 0, 1), field(8, 4, 6)}, 0x605},
	} {
		if got := word.Pack(x.l...); got != x.want {
			t.Errorf("%d: %#x, want %#x", i, got, x.want)
		}
	}
}

func TestPackBitByBit(t *testing.T) { // P1.1
	for _, v := range []uint32{1, least, ones, 0xDEADBEEF} {
		for _, low := range counts() {
			for _, n := range counts() {
				want := uint32(0)
				if low >= 0 && low <= 31 {
					want = fromBits(func(i int) uint32 {
						if i-low >= n {
							return 0
						}
						return bit(v, i-low)
					})
				}
				if got := word.Pack(field(low, n, v)); got != want {
					t.Fatalf("Pack(%d %d %#x): %#x, want %#x", low, n, v, got, want)
				}
				if got := word.Pack(field(0, 4, 9), field(low, n, v), field(16, 4, 6)); got != want|0x60009 {
					t.Fatalf("Pack(.., %d %d %#x, ..): %#x, want %#x", low, n, v, got, want|0x60009)
				}
			}
		}
	}
}

// The parts that Bits takes out of a word, wherever it is cut, Pack lays together again.
func TestPackOfBits(t *testing.T) { // P1.1
	for _, x := range words() {
		for cut := 1; cut <= 31; cut++ {
			low, high := word.Bits(x, 0, cut), word.Bits(x, cut, 32-cut)
			if got := word.Pack(field(0, cut, low), field(cut, 32-cut, high)); got != x {
				t.Fatalf("%#x cut at %d: %#x", x, cut, got)
			}
		}
	}
}

func TestPackLeavesItsList(t *testing.T) { // P0.4
	behind := field(0, 32, ones)
	room := []word.Field{field(0, 8, 0xFFF), field(32, 8, 1), behind}
	before := slices.Clone(room)
	for range 2 {
		if got := word.Pack(room[:2]...); got != 0xFF {
			t.Errorf("%#x", got)
		}
	}
	if !slices.Equal(room, before) {
		t.Errorf("the list was changed: %v", room)
	}
}

func TestHighTable(t *testing.T) { // P1.2
	for _, x := range []struct {
		a, b         uint32
		signA, signB bool
		want         uint32
	}{
		{0x10000, 0x10000, false, false, 1}, {0xFFFF, 0xFFFF, true, true, 0}, {0x12345678, 0x9ABCDEF0, false, false, 0x0B00EA4E},
		{ones, 2, true, false, ones}, {ones, 2, true, true, ones}, {ones, 2, false, false, 1}, {ones, 2, false, true, 1},
		{2, ones, false, true, ones}, {2, ones, true, false, 1},
		{ones, ones, false, false, 0xFFFFFFFE}, {ones, ones, true, true, 0}, {ones, ones, true, false, ones}, {ones, ones, false, true, ones},
		{least, least, true, true, 0x40000000}, {least, least, false, false, 0x40000000}, {least, least, true, false, 0xC0000000}, {least, least, false, true, 0xC0000000},
		{least, ones, true, true, 0}, {least, ones, true, false, 0x80000000}, {most, most, true, true, 0x3FFFFFFF},
		{0, ones, true, true, 0}, {ones, 0, false, false, 0},
	} {
		if got := word.High(x.a, x.b, x.signA, x.signB); got != x.want {
			t.Errorf("High(%#x, %#x, %v, %v): %#x, want %#x", x.a, x.b, x.signA, x.signB, got, x.want)
		}
	}
}

func TestDivRemTable(t *testing.T) { // P1.2
	for _, x := range []struct {
		a, b      uint32
		signed    bool
		quot, rem uint32
	}{
		{7, 2, true, 3, 1}, {7, 2, false, 3, 1}, {6, 7, true, 0, 6}, {0, 5, true, 0, 0},
		{0xFFFFFFF9, 2, true, 0xFFFFFFFD, 0xFFFFFFFF}, {7, 0xFFFFFFFE, true, 0xFFFFFFFD, 1}, {0xFFFFFFF9, 0xFFFFFFFE, true, 3, 0xFFFFFFFF}, {0xFFFFFFFA, 7, true, 0, 0xFFFFFFFA}, {0xFFFFFFF8, 4, true, 0xFFFFFFFE, 0},
		{0xFFFFFFF9, 2, false, 0x7FFFFFFC, 1}, {7, 0xFFFFFFFE, false, 0, 7}, {ones, ones, false, 1, 0}, {ones, ones, true, 1, 0}, {ones, 1, false, ones, 0},
		{7, 0, true, ones, 7}, {7, 0, false, ones, 7}, {0, 0, true, ones, 0}, {0, 0, false, ones, 0}, {least, 0, true, ones, least}, {least, 0, false, ones, least}, {ones, 0, true, ones, ones}, {ones, 0, false, ones, ones},
		{least, ones, true, least, 0}, {least, ones, false, 0, least}, {least + 1, ones, true, most, 0}, {least, 1, true, least, 0}, {least, least, true, 1, 0}, {least, 2, true, 0xC0000000, 0}, {least, 2, false, 0x40000000, 0}, {least, most, true, ones, ones}, {most, least, true, 0, most}, {most, ones, true, least + 1, 0},
	} {
		if got := word.Div(x.a, x.b, x.signed); got != x.quot {
			t.Errorf("Div(%#x, %#x, %v): %#x, want %#x", x.a, x.b, x.signed, got, x.quot)
		}
		if got := word.Rem(x.a, x.b, x.signed); got != x.rem {
			t.Errorf("Rem(%#x, %#x, %v): %#x, want %#x", x.a, x.b, x.signed, got, x.rem)
		}
	}
}

func TestLessTable(t *testing.T) { // P1.2
	for _, x := range []struct {
		a, b             uint32
		signed, unsigned bool
	}{
		{3, 4, true, true}, {4, 3, false, false}, {3, 3, false, false}, {0, 0, false, false},
		{ones, 0, true, false}, {0, ones, false, true}, {ones, ones, false, false}, {0xFFFFFFFE, ones, true, true},
		{least, most, true, false}, {most, least, false, true}, {least, ones, true, true}, {least, least, false, false}, {least, 0, true, false},
	} {
		if got := word.Less(x.a, x.b, true); got != x.signed {
			t.Errorf("Less(%#x, %#x, true): %v", x.a, x.b, got)
		}
		if got := word.Less(x.a, x.b, false); got != x.unsigned {
			t.Errorf("Less(%#x, %#x, false): %v", x.a, x.b, got)
		}
	}
}

// High, Div, Rem and Less are held against numbers without bounds.
func TestReckonsWithoutBounds(t *testing.T) { // P1.2
	l := words()
	for _, a := range l {
		for _, b := range l {
			for _, signed := range []bool{false, true} {
				checkReckons(t, a, b, signed)
			}
		}
	}
}

func checkReckons(t *testing.T, a, b uint32, signed bool) {
	t.Helper()
	x, y := number(a, signed), number(b, signed)
	for _, signB := range []bool{false, true} {
		product := new(big.Int).Mul(x, number(b, signB))
		if got, want := word.High(a, b, signed, signB), lowWord(product.Rsh(product, 32)); got != want {
			t.Fatalf("High(%#x, %#x, %v, %v): %#x, want %#x", a, b, signed, signB, got, want)
		}
	}
	if got, want := word.Less(a, b, signed), x.Cmp(y) < 0; got != want {
		t.Fatalf("Less(%#x, %#x, %v): %v", a, b, signed, got)
	}
	quot, rem := uint32(ones), a
	if b != 0 {
		q, r := new(big.Int).QuoRem(x, y, new(big.Int))
		quot, rem = lowWord(q), lowWord(r)
	}
	if got := word.Div(a, b, signed); got != quot {
		t.Fatalf("Div(%#x, %#x, %v): %#x, want %#x", a, b, signed, got, quot)
	}
	if got := word.Rem(a, b, signed); got != rem {
		t.Fatalf("Rem(%#x, %#x, %v): %#x, want %#x", a, b, signed, got, rem)
	}
}

func TestShiftTable(t *testing.T) { // P1.2
	for _, x := range []struct {
		a                      uint32
		n                      int
		right, rightKept, left uint32
	}{
		{0x80000010, 0, 0x80000010, 0x80000010, 0x80000010}, {0x80000010, 4, 0x08000001, 0xF8000001, 0x100}, {0x40000010, 4, 0x04000001, 0x04000001, 0x100},
		{0x80000001, 1, 0x40000000, 0xC0000000, 2}, {0x80000001, 31, 1, ones, least}, {most, 31, 0, 0, least},
		{0x80000010, 32, 0x80000010, 0x80000010, 0x80000010}, {0x80000010, 36, 0x08000001, 0xF8000001, 0x100}, {0x80000010, 64, 0x80000010, 0x80000010, 0x80000010}, {0x80000001, 63, 1, ones, least},
		{0x80000001, -1, 1, ones, least}, {0x80000010, -28, 0x08000001, 0xF8000001, 0x100}, {0x80000010, -32, 0x80000010, 0x80000010, 0x80000010}, {0x80000001, -33, 1, ones, least},
		{0x80000001, math.MaxInt, 1, ones, least}, {0x80000010, math.MinInt, 0x80000010, 0x80000010, 0x80000010}, {0x80000010, math.MinInt + 4, 0x08000001, 0xF8000001, 0x100},
	} {
		if got := word.Right(x.a, x.n, false); got != x.right {
			t.Errorf("Right(%#x, %d, false): %#x, want %#x", x.a, x.n, got, x.right)
		}
		if got := word.Right(x.a, x.n, true); got != x.rightKept {
			t.Errorf("Right(%#x, %d, true): %#x, want %#x", x.a, x.n, got, x.rightKept)
		}
		if got := word.Left(x.a, x.n); got != x.left {
			t.Errorf("Left(%#x, %d): %#x, want %#x", x.a, x.n, got, x.left)
		}
	}
}

func TestShiftBitByBit(t *testing.T) { // P1.2
	for _, a := range words() {
		for _, n := range counts() {
			by := ((n % 32) + 32) % 32
			right := fromBits(func(i int) uint32 { return bit(a, i+by) })
			kept := fromBits(func(i int) uint32 { return bit(a, min(i+by, 31)) })
			left := fromBits(func(i int) uint32 { return bit(a, i-by) })
			if got := word.Right(a, n, false); got != right {
				t.Fatalf("Right(%#x, %d, false): %#x, want %#x", a, n, got, right)
			}
			if got := word.Right(a, n, true); got != kept {
				t.Fatalf("Right(%#x, %d, true): %#x, want %#x", a, n, got, kept)
			}
			if got := word.Left(a, n); got != left {
				t.Fatalf("Left(%#x, %d): %#x, want %#x", a, n, got, left)
			}
		}
	}
}
