package wmo_test

import (
	"math"
	"testing"

	"corral/api"
	"corral/wmo"
)

// last holds that the byte at addr is want; below 0: that there is none.
func last(t *testing.T, want int, addr uint32, l [][]api.Op, order ...int) {
	t.Helper()
	b, is := wmo.Last(l, refs(order...), addr)
	if is != (want >= 0) || int(b) != max(want, 0) {
		t.Errorf("%d, %v, not %d: at %d, %v of %+v", b, is, want, addr, order, l)
	}
}

func TestLast(t *testing.T) { // P14.3
	l := harts(hart(write(0, 0x04030201), read(0, 9)), hart(write(2, 0x0908, bytes(2))), hart(both(4, 9, 0x14131211), barrier(3, 3)))
	order := []int{0, 0, 1, 0, 0, 1, 2, 0}
	for addr, want := range []int{1, 2, 8, 9, 0x11, 0x12, 0x13, 0x14, -1, -1} {
		last(t, want, uint32(addr), l, order...)
	}
	for addr, want := range []int{1, 2, 3, 4, -1} {
		last(t, want, uint32(addr), l, 1, 0, 0, 1, 0, 0)
	}
	last(t, -1, 0, l)
	last(t, -1, 0, nil)
	last(t, -1, 0, l, 0, 1, 1, 0, 2, 0)
	last(t, 0, 0, harts(hart(write(0, 0x100))), 0, 0)
	last(t, -1, 1<<16, l, order...)
	// The last address.
	l = harts(hart(write(0xFFFFFFFC, 0x44332211)))
	for n, want := range []int{0x11, 0x22, 0x33, 0x44, -1, -1} {
		last(t, want, uint32(n)-4, l, 0, 0)
	}
}

func TestLastNone(t *testing.T) { // P14.3: Refs that are none are passed over
	l := harts(hart(write(0, 1), barrier(3, 3)), hart(write(0, 2)), nil)
	l[0][1].Value = 7 // a Barrier writes nothing, whatever it says
	for _, r := range [][]int{{0, 1}, {0, 2}, {0, -1}, {1, 1}, {2, 0}, {3, 0}, {-1, 0}, {math.MinInt, math.MaxInt}, {math.MaxInt, math.MinInt}, {0, math.MaxInt}, {0, math.MinInt}, {1 << 32, 0}, {0, 1 << 32}} {
		last(t, -1, 0, l, r...)
		last(t, 1, 0, l, append(r, 0, 0)...)
		last(t, 1, 0, l, append([]int{0, 0}, r...)...)
		last(t, 2, 0, l, append([]int{0, 0, 1, 0}, r...)...)
	}
	// One that was there already is none (P14.2): its write lies where it was first.
	last(t, 2, 0, l, 0, 0, 1, 0, 0, 0)
	last(t, 2, 0, l, 0, 0, 0, 0, 1, 0, 0, 0, 1, 0, 0, 0)
	last(t, 1, 0, l, 1, 0, 0, 0, 1, 0)
}

func TestLastAny(t *testing.T) { // P14.3, P0.1: operations that are not valid, orders that may not be
	for _, k := range []int{0, -1, 5, math.MinInt, math.MaxInt, api.Read, 1<<32 + 2} {
		last(t, -1, 0, harts(hart(write(0, 1, kind(k)))), 0, 0)
	}
	for _, size := range []int{0, -1, math.MinInt, -1 << 32} {
		last(t, -1, 0, harts(hart(write(0, 1, bytes(size)))), 0, 0)
	}
	// Behind the four bytes of Value there is 0; addresses wrap.
	wide := harts(hart(write(0xFFFFFFFE, 0x44332211, bytes(7))))
	for n, want := range []int{0x11, 0x22, 0x33, 0x44, 0, 0, 0, -1} {
		last(t, want, uint32(n)-2, wide, 0, 0)
	}
	last(t, -1, 0xFFFFFFFD, wide, 0, 0)
	wide[0][0].Size = math.MaxInt
	last(t, 0, 0xFFFFFFFD, wide, 0, 0)
	last(t, 0, 1<<29-2, wide, 0, 0)
	last(t, 0x11, 0xFFFFFFFE, wide, 0, 0)
	// More harts than Valid takes, and what has to stay in order does not.
	many := make([][]api.Op, 70)
	many[69] = hart(write(0, 1), write(0, 2))
	last(t, 1, 0, many, 69, 1, 69, 0)
}
