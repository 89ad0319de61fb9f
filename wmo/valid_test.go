package wmo_test

import (
	"errors"
	"math"
	"slices"
	"testing"

	"corral/api"
	"corral/wmo"
)

func TestValidNumbers(t *testing.T) { // P14.1: at most 64 harts, 20000 operations in all
	valid(t)
	valid(t, nil, nil)
	valid(t, make([][]api.Op, 64)...)
	invalid(t, api.ErrMany, make([][]api.Op, 65)...)
	fence := []api.Op{barrier(3, 3)}
	valid(t, slices.Repeat(fence, 20000))
	valid(t, slices.Repeat(fence, 19999), nil, fence)
	invalid(t, api.ErrMany, slices.Repeat(fence, 20001))
	invalid(t, api.ErrMany, slices.Repeat(fence, 20000), fence)
	l := slices.Repeat([][]api.Op{slices.Repeat(fence, 312)}, 64)
	valid(t, l...)
	l[63] = slices.Repeat(fence, 20000-63*312+1)
	invalid(t, api.ErrMany, l...)
	// It comes ahead of whatever is wrong with one.
	invalid(t, api.ErrMany, make([]api.Op, 20001))
	invalid(t, api.ErrMany, append(make([][]api.Op, 64), make([]api.Op, 1))...)
	invalid(t, at(0, api.ErrShape), make([]api.Op, 20000))
}

func TestValidNumber(t *testing.T) { // P14.1: the first that is wrong, counted over all harts
	bad, good := read(0, 0, kind(0)), read(0, 0)
	invalid(t, at(0, api.ErrShape), hart(bad))
	invalid(t, at(0, api.ErrShape), nil, nil, hart(bad))
	invalid(t, at(1, api.ErrShape), hart(good, bad, bad), hart(bad))
	invalid(t, at(4, api.ErrShape), hart(good, barrier(1, 1)), nil, hart(good), hart(good, bad, good), hart(bad))
	invalid(t, at(19999, api.ErrShape), slices.Repeat(hart(good), 10000), append(slices.Repeat(hart(good), 9999), bad))
	err := wmo.Valid(harts(hart(good, bad)))
	var where *api.At
	if !errors.As(err, &where) || where.Pos != 1 || !errors.Is(err, api.ErrShape) || errors.Is(err, api.ErrMany) {
		t.Error(err)
	}
}

// second holds whether an operation may stand behind one that reads and one that is a Barrier, in the second hart.
func second(t *testing.T, may bool, o api.Op) {
	t.Helper()
	l := harts(hart(write(0, 1)), hart(read(4, 0), barrier(0, 0), o))
	if may {
		valid(t, l...)
		return
	}
	invalid(t, at(3, api.ErrShape), l...)
}

func TestValidKind(t *testing.T) { // P14.1: Read to Barrier
	for _, k := range []int{api.Read, api.Write, api.Both} {
		second(t, true, read(0, 0, kind(k)))
		second(t, true, read(0, 7, kind(k), aq, rl, ctrl(0)))
	}
	for _, k := range []int{0, -1, 5, 6, math.MinInt, math.MaxInt, 1<<32 + 1, 1<<32 + 4, 257} {
		second(t, false, read(0, 0, kind(k)))
		second(t, false, read(0, 0, kind(k), bytes(0)))
		second(t, false, read(0, 0, kind(k), paired))
	}
	second(t, false, api.Op{})
}

func TestValidSize(t *testing.T) { // P14.1: Size 1, 2 or 4, of a Barrier 0, of Both 4
	for size := -2; size <= 9; size++ {
		small := size == 1 || size == 2 || size == 4
		second(t, small, read(0, 0, bytes(size)))
		second(t, small, write(0, 0, bytes(size)))
		second(t, size == 4, both(0, 0, 0, bytes(size)))
		second(t, size == 0, read(0, 0, kind(api.Barrier), bytes(size)))
		second(t, size == 4, read(0, 0, paired, bytes(size)))
	}
	for _, size := range []int{16, 256, 1 << 32, 1<<32 + 4, math.MinInt, math.MaxInt} {
		for k := api.Read; k <= api.Barrier; k++ {
			second(t, false, read(0, 0, kind(k), bytes(size)))
		}
	}
}

func TestValidAddr(t *testing.T) { // P14.1: a multiple of Size
	for _, base := range []uint32{0, 64, 0x7FFFFFFC, 0x80000000, 0xFFFFFFF8} {
		for n := range uint32(8) {
			for _, size := range []int{1, 2, 4} {
				second(t, n%uint32(size) == 0, read(base+n, 0, bytes(size)))
				second(t, n%uint32(size) == 0, write(base+n, 0, bytes(size)))
			}
			second(t, n%4 == 0, both(base+n, 0, 0))
			second(t, n%4 == 0, lr(base+n, 0))
			// Where a Barrier lies is not asked.
			second(t, true, read(base+n, 0, kind(api.Barrier), bytes(0)))
		}
	}
}

func TestValidBarrier(t *testing.T) { // P14.1: nothing is asked of Pred and Succ, nor of what was read or written
	for _, n := range []int{0, 3, 4, -1, math.MinInt, math.MaxInt} {
		second(t, true, barrier(n, n, aq, rl))
		second(t, true, read(0, 0, func(o *api.Op) { o.Pred, o.Succ = n, n }))
	}
	second(t, true, barrier(1, 1, func(o *api.Op) { o.Value, o.Got = 1, 1 }))
	second(t, true, read(0, 1<<31, bytes(1), func(o *api.Op) { o.Value = 1 << 31 }))
	second(t, true, write(0, 1<<31, bytes(1), func(o *api.Op) { o.Got = 1 << 31 }))
}

func TestValidPaired(t *testing.T) { // P14.1: Read or Write, of Size 4
	second(t, true, lr(8, 0))
	second(t, false, barrier(0, 0, paired))
	second(t, false, both(8, 0, 0, paired))
	second(t, false, sc(8, 0))
	// Both and a Barrier are refused behind an Lr, too.
	for _, o := range []api.Op{both(8, 0, 0, paired), barrier(0, 0, paired), write(8, 0, paired, bytes(2)), write(8, 0, paired, bytes(1)), read(8, 0, paired, bytes(2)), read(8, 0, paired, bytes(1))} {
		invalid(t, at(1, api.ErrShape), hart(lr(8, 0), o))
	}
}

func TestValidPairs(t *testing.T) { // P14.1: an Sc has an Lr, of the same Addr
	valid(t, hart(lr(8, 0), sc(8, 1)))
	valid(t, hart(lr(8, 0), read(12, 0), write(8, 0), barrier(3, 3), both(8, 0, 0), sc(8, 1)))
	valid(t, hart(lr(8, 0), lr(12, 0), sc(12, 1), lr(8, 0), sc(8, 1), lr(8, 0)))
	invalid(t, at(1, api.ErrShape), hart(lr(8, 0), sc(12, 1)))
	invalid(t, at(1, api.ErrShape), hart(lr(8, 0), sc(8+1<<16, 1)))
	invalid(t, at(2, api.ErrShape), hart(lr(8, 0), sc(8, 1), sc(8, 1)))
	invalid(t, at(2, api.ErrShape), hart(lr(8, 0), lr(12, 0), sc(8, 1)))
	invalid(t, at(1, api.ErrShape), hart(read(8, 0), sc(8, 1)))
	invalid(t, at(1, api.ErrShape), hart(write(8, 0), sc(8, 1), lr(8, 0)))
	invalid(t, at(0, api.ErrShape), hart(sc(8, 1), lr(8, 0), sc(8, 1)))
	// Another hart's Lr is none.
	invalid(t, at(1, api.ErrShape), hart(lr(8, 0)), hart(sc(8, 1)))
}

func TestValidDeps(t *testing.T) { // P14.1: places ahead of its own, in its hart's list
	for _, on := range []func(...int) change{addr, data, ctrl} {
		for _, k := range []int{api.Read, api.Write, api.Both} {
			second(t, true, read(0, 0, kind(k), on(0)))
			second(t, true, read(0, 0, kind(k), on(1, 0, 1, 1))) // a Barrier's, too, and in whatever order
			for _, n := range []int{2, 3, 4, -1, math.MinInt, math.MaxInt, 1 << 32} {
				second(t, false, read(0, 0, kind(k), on(n)))
				second(t, false, read(0, 0, kind(k), on(0, 1, n)))
				second(t, false, read(0, 0, kind(k), on(n, 1)))
			}
		}
		second(t, true, barrier(1, 1, on(0, 1)))
		second(t, false, barrier(1, 1, on(2)))
		second(t, false, barrier(1, 1, on(-1)))
		invalid(t, at(0, api.ErrShape), hart(read(0, 0, on(0))))
		invalid(t, at(2, api.ErrShape), hart(read(0, 0), read(0, 0)), hart(read(0, 0, on(0))))
	}
}
