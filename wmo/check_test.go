package wmo_test

import (
	"math"
	"testing"

	"corral/api"
	"corral/wmo"
)

func TestCheckExample(t *testing.T) { // P14.2: the chapter's example
	l := harts(hart(write(0, 1)), hart(read(0, 1)))
	check(t, nil, l, 0, 0, 1, 0)
	check(t, at(0, api.ErrValue), l, 1, 0, 0, 0)
	check(t, nil, nil)
	check(t, nil, harts(nil, hart(barrier(3, 3)), nil))
}

func TestCheckRefs(t *testing.T) { // P14.2: Refs that are none
	l := harts(hart(write(0, 1), barrier(3, 3), read(0, 1)), nil, hart(write(0, 1)))
	good := []int{0, 0, 2, 0, 0, 2}
	check(t, nil, l, good...)
	for _, r := range [][2]int{{0, 1}, {0, 3}, {0, -1}, {1, 0}, {2, 1}, {3, 0}, {-1, 0}, {math.MinInt, 0}, {math.MaxInt, 0}, {0, math.MinInt}, {2, math.MaxInt}, {1 << 32, 0}, {0, 1 << 32}} {
		for n := range 4 {
			order := append(append(append([]int{}, good[:2*n]...), r[:]...), good[2*n:]...)
			check(t, at(n, api.ErrOrder), l, order...)
			check(t, at(n, api.ErrOrder), l, order[:2*n+2]...)
		}
	}
	check(t, at(1, api.ErrOrder), l, 0, 0, 0, 0, 2, 0, 0, 2)
	check(t, at(2, api.ErrOrder), l, 0, 0, 2, 0, 0, 0, 0, 2)
	check(t, at(3, api.ErrOrder), l, append(good, 0, 2)...)
	// The first of them, whatever else is wrong behind it.
	check(t, at(1, api.ErrOrder), l, 0, 0, 9, 9, 0, 0, 0, 1)
	check(t, at(0, api.ErrOrder), nil, 0, 0)
}

func TestCheckAll(t *testing.T) { // P14.2: all that are no Barriers are there
	l := harts(hart(write(0, 1), barrier(3, 3), read(0, 1)), nil, hart(write(0, 1)))
	check(t, at(0, api.ErrOrder), l)
	check(t, at(1, api.ErrOrder), l, 0, 0)
	check(t, at(2, api.ErrOrder), l, 0, 0, 2, 0)
	// It comes ahead of what has to stay in order, and of values.
	check(t, at(1, api.ErrOrder), l, 0, 2)
	check(t, at(2, api.ErrOrder), l, 0, 2, 0, 0)
	check(t, at(1, api.ErrOrder), harts(hart(read(0, 9), write(4, 0))), 0, 0)
}

func TestCheckStay(t *testing.T) { // P14.2: what has to stay in order, by each rule
	for _, x := range []struct {
		a, between, b api.Op
		stay          bool
	}{
		{write(0, 1), barrier(0, 0), write(0, 2), true},
		{read(0, 0), barrier(0, 0), read(0, 0), true},
		{both(0, 0, 0), barrier(0, 0), read(0, 0), true},
		{read(0, 0), barrier(1, 2), write(4, 0), true},
		{read(0, 0, aq), barrier(0, 0), read(4, 0), true},
		{read(0, 0), barrier(0, 0), write(4, 0, rl), true},
		{write(0, 0, rl), barrier(0, 0), read(4, 0, aq), true},
		{lr(0, 0), barrier(0, 0), sc(0, 0), true},
		{read(0, 0), barrier(0, 0), read(4, 0, addr(0)), true},
		{read(0, 0), barrier(0, 0), write(4, 0, data(0)), true},
		{read(0, 0), barrier(0, 0), write(4, 0, ctrl(0)), true},
		{read(0, 0), barrier(0, 0, addr(0)), write(4, 0), true},
		{write(0, 0), barrier(0, 0), write(4, 0), false},
		{write(0, 0), barrier(1, 2), write(4, 0), false},
		{write(0, 0), barrier(0, 0), read(0, 0), false},
		{read(0, 0), barrier(0, 0), read(4, 0, ctrl(0)), false},
		{read(0, 0, rl), barrier(3, 0), write(4, 0, aq, bytes(1)), true},
		{read(0, 0, rl), barrier(3, 0), write(4, 0, bytes(1)), false},
	} {
		l := harts(hart(x.a, x.between, x.b))
		check(t, nil, l, 0, 0, 0, 2)
		var want error
		if x.stay {
			want = at(1, api.ErrOrder)
		}
		if got := wmo.Check(l, refs(0, 2, 0, 0), zero); !same(got, want) {
			t.Error(got, "not", want, "of", x)
		}
	}
	// What is handed on by a store between.
	l := harts(hart(read(0, 0), write(4, 1, data(0)), read(4, 1)))
	check(t, nil, l, 0, 0, 0, 2, 0, 1)
	check(t, at(1, api.ErrOrder), l, 0, 2, 0, 0, 0, 1)
}

func TestCheckStayFirst(t *testing.T) { // P14.2: around the first of which one that lies ahead has to stay behind it
	three := hart(write(0, 1), write(0, 2), write(0, 3))
	check(t, nil, harts(three), 0, 0, 0, 1, 0, 2)
	check(t, at(1, api.ErrOrder), harts(three), 0, 2, 0, 1, 0, 0)
	check(t, at(1, api.ErrOrder), harts(three), 0, 1, 0, 0, 0, 2)
	check(t, at(2, api.ErrOrder), harts(three), 0, 0, 0, 2, 0, 1)
	check(t, at(2, api.ErrOrder), harts(three), 0, 1, 0, 2, 0, 0)
	check(t, at(1, api.ErrOrder), harts(three), 0, 2, 0, 0, 0, 1)
	// Of several harts, and however far ahead.
	l := harts(hart(write(0, 1), write(0, 2)), hart(write(4, 1), write(4, 2)), hart(write(8, 1)))
	check(t, at(3, api.ErrOrder), l, 0, 1, 1, 1, 2, 0, 1, 0, 0, 0)
	check(t, at(3, api.ErrOrder), l, 1, 1, 0, 1, 2, 0, 0, 0, 1, 0)
	check(t, at(4, api.ErrOrder), l, 1, 1, 0, 0, 0, 1, 2, 0, 1, 0)
	check(t, nil, l, 1, 0, 0, 0, 0, 1, 2, 0, 1, 1)
	// Harts keep nothing of one another in order.
	check(t, nil, harts(hart(write(0, 1)), hart(write(0, 2))), 1, 0, 0, 0)
	// It comes ahead of all values.
	check(t, at(2, api.ErrOrder), harts(hart(read(0, 7), write(4, 1), write(4, 2))), 0, 0, 0, 2, 0, 1)
}

func TestCheckBuffered(t *testing.T) { // P14.2: stores that lie behind loads
	sb := func(l ...api.Op) [][]api.Op {
		x := append(append(hart(write(0, 1)), l...), read(4, 0))
		return harts(x, append(append(hart(write(4, 1)), l...), read(0, 0)))
	}
	check(t, nil, sb(), 0, 1, 1, 1, 0, 0, 1, 0)
	check(t, nil, sb(barrier(1, 1)), 0, 2, 1, 2, 0, 0, 1, 0)
	check(t, at(2, api.ErrOrder), sb(barrier(3, 3)), 0, 2, 1, 2, 0, 0, 1, 0)
	check(t, at(3, api.ErrValue), sb(barrier(3, 3)), 0, 0, 0, 2, 1, 0, 1, 2)
}

func TestCheckOwn(t *testing.T) { // P14.2: a hart reads what it wrote, though others don't see it yet
	l := harts(hart(write(0, 1), read(0, 1)), hart(write(0, 9)))
	check(t, nil, l, 0, 1, 0, 0, 1, 0)
	check(t, nil, l, 0, 1, 1, 0, 0, 0) // what is written last in order: its own, behind the other's
	check(t, nil, l, 1, 0, 0, 1, 0, 0)
	check(t, nil, l, 1, 0, 0, 0, 0, 1)
	check(t, at(2, api.ErrValue), l, 0, 0, 1, 0, 0, 1)
	l = harts(hart(write(0, 1), read(0, 9)), hart(write(0, 9)))
	check(t, nil, l, 0, 0, 1, 0, 0, 1)
	check(t, at(0, api.ErrValue), l, 0, 1, 1, 0, 0, 0)
	check(t, at(1, api.ErrValue), l, 1, 0, 0, 1, 0, 0)
	// The last one of its own, of those ahead of it in the list.
	l = harts(hart(write(0, 1), write(0, 2), read(0, 2), write(0, 3)))
	check(t, nil, l, 0, 0, 0, 1, 0, 2, 0, 3)
	check(t, nil, l, 0, 0, 0, 2, 0, 1, 0, 3)
	check(t, nil, l, 0, 2, 0, 0, 0, 1, 0, 3)
	// What it writes behind that in its list it does not read; it has to stay behind.
	check(t, at(0, api.ErrValue), harts(hart(read(0, 3), write(0, 3))), 0, 0, 0, 1)
	// Another hart's store that it does not see yet is not its own.
	check(t, at(0, api.ErrValue), harts(hart(write(0, 1)), hart(read(0, 1))), 1, 0, 0, 0)
}

func TestCheckBytes(t *testing.T) { // P14.2: each byte for itself, the lowest at Addr
	word := harts(hart(write(4, 0x04030201)), hart(read(4, 0x04030201)))
	check(t, nil, word, 0, 0, 1, 0)
	for i := range 4 {
		one := func(got uint32) [][]api.Op {
			return harts(hart(write(4, 0x04030201)), hart(read(4+uint32(i), got, bytes(1))))
		}
		check(t, nil, one(uint32(i)+1), 0, 0, 1, 0)
		check(t, at(1, api.ErrValue), one(uint32(i)+2), 0, 0, 1, 0)
		wrong := copied(word)
		wrong[1][0].Got ^= 0x80 << (8 * i)
		check(t, at(1, api.ErrValue), wrong, 0, 0, 1, 0)
		part := harts(hart(write(4, 0xAAAAAAAA)), hart(write(4+uint32(i), 0xFFFFFFBB, bytes(1))), hart(read(4, 0xAAAAAAAA&^(0xFF<<(8*i))|0xBB<<(8*i))))
		check(t, nil, part, 0, 0, 1, 0, 2, 0)
		check(t, at(2, api.ErrValue), part, 1, 0, 0, 0, 2, 0)
	}
	for _, n := range []uint32{4, 6} {
		half := harts(hart(write(4, 0x04030201)), hart(read(n, []uint32{0x0201, 0x0403}[n/2-2], bytes(2))))
		check(t, nil, half, 0, 0, 1, 0)
	}
	// Four that write a byte each, and memory beneath: of each byte another one is the last.
	l := harts(hart(write(0, 0x11, bytes(1)), write(2, 0x3322, bytes(2))), hart(write(2, 0x44, bytes(1))), hart(read(0, 0x33440111)))
	checkFirst(t, nil, low, l, 0, 0, 0, 1, 1, 0, 2, 0)
	checkFirst(t, at(3, api.ErrValue), low, l, 0, 0, 1, 0, 0, 1, 2, 0)
	// Its own, not yet seen, and another's beside it.
	l = harts(hart(write(0, 5, bytes(1)), read(0, 0x03020605)), hart(write(1, 6, bytes(1))))
	checkFirst(t, nil, low, l, 1, 0, 0, 1, 0, 0)
	checkFirst(t, at(0, api.ErrValue), low, l, 0, 1, 0, 0, 1, 0)
	// The last address, and the highest bits.
	check(t, nil, harts(hart(write(0xFFFFFFFC, 0x80FF0000), read(0xFFFFFFFE, 0x80FF, bytes(2)), read(0, 0))), 0, 0, 0, 1, 0, 2)
}

func TestCheckBeyond(t *testing.T) { // P14.2: bytes of Got beyond Size are 0
	for _, size := range []int{1, 2} {
		l := func(got uint32) [][]api.Op { return harts(hart(write(0, 0xFFFFFFFF), read(0, got, bytes(size)))) }
		all := uint32(1)<<(8*size) - 1
		check(t, nil, l(all), 0, 0, 0, 1)
		for bit := 8 * size; bit < 32; bit++ {
			check(t, at(1, api.ErrValue), l(all|1<<bit), 0, 0, 0, 1)
		}
	}
	// What is written beyond Size is nowhere.
	check(t, nil, harts(hart(write(0, 0xFFFFFFFF, bytes(2)), read(0, 0xFFFF))), 0, 0, 0, 1)
	check(t, nil, harts(hart(write(0, 0xFFFFFFFF, bytes(1)), read(1, 0, bytes(1)), read(0, 0xFF))), 0, 0, 0, 1, 0, 2)
}

func TestCheckBoth(t *testing.T) { // P14.2: what is both reads what was there ahead of it, and writes Value
	l := harts(hart(both(0, 0, 1)), hart(both(0, 1, 2)), hart(read(0, 2)))
	check(t, nil, l, 0, 0, 1, 0, 2, 0)
	check(t, at(0, api.ErrValue), l, 1, 0, 0, 0, 2, 0)
	check(t, at(1, api.ErrValue), l, 0, 0, 2, 0, 1, 0)
	check(t, at(0, api.ErrValue), harts(hart(both(0, 1, 1))), 0, 0)
}

func TestCheckReads(t *testing.T) { // P14.2: only what reads is asked; Value of what reads, Got of what writes say nothing
	l := harts(hart(write(0, 1, func(o *api.Op) { o.Got = 9 }), read(0, 1, func(o *api.Op) { o.Value = 9 }), read(0, 1)))
	check(t, nil, l, 0, 0, 0, 1, 0, 2)
	// The first in order, not in the lists.
	l = harts(hart(read(0, 7), read(4, 7)), hart(read(8, 7)))
	check(t, at(0, api.ErrValue), l, 1, 0, 0, 1, 0, 0)
	l[1][0].Got = 0
	check(t, at(1, api.ErrValue), l, 1, 0, 0, 1, 0, 0)
	l[0][1].Got = 0
	check(t, at(2, api.ErrValue), l, 1, 0, 0, 1, 0, 0)
}

func TestCheckFirst(t *testing.T) { // P14.2: what none wrote is what first says
	l := harts(hart(read(8, 0x0B0A0908)), hart(write(4, 1)), hart(write(12, 1)))
	checkFirst(t, nil, low, l, 1, 0, 0, 0, 2, 0)
	check(t, at(1, api.ErrValue), l, 1, 0, 0, 0, 2, 0)
	checkFirst(t, nil, low, harts(hart(read(0x1FE, 0xFFFE, bytes(2)))), 0, 0)
	// It is asked of these bytes, and of no others.
	var asked []uint32
	l = harts(hart(write(1, 5, bytes(1)), read(0, 0x03020500), read(6, 0x0706, bytes(2))))
	err := wmo.Check(l, refs(0, 1, 0, 0, 0, 2), func(addr uint32) byte {
		asked = append(asked, addr)
		return byte(addr)
	})
	if err != nil || len(asked) != 5 {
		t.Error(err, asked)
	}
	for _, a := range asked {
		if a != 0 && a != 2 && a != 3 && a != 6 && a != 7 {
			t.Error(asked)
		}
	}
}

func TestCheckPairs(t *testing.T) { // P14.2: none of another hart between what an Lr read and its Sc
	l := harts(hart(lr(0, 5), sc(0, 7)), hart(write(0, 5), write(4, 1), write(3, 0, bytes(1))))
	check(t, nil, l, 1, 0, 0, 0, 1, 1, 0, 1, 1, 2)
	check(t, at(4, api.ErrOrder), l, 1, 0, 0, 0, 1, 1, 1, 2, 0, 1)
	check(t, at(3, api.ErrOrder), l, 1, 0, 0, 0, 1, 2, 0, 1, 1, 1)
	check(t, nil, l, 1, 0, 0, 0, 0, 1, 1, 2, 1, 1)
	// Ahead of the Lr, and behind what it read of another byte.
	check(t, nil, l, 1, 0, 1, 2, 0, 0, 0, 1, 1, 1)
	for i := range uint32(4) {
		for _, size := range []int{1, 2, 4} {
			a := i &^ uint32(size-1)
			l = harts(hart(lr(8, 0), sc(8, 7)), hart(write(8+a, 0, bytes(size))), hart(write(4+a, 1, bytes(size)), write(12+a, 1, bytes(size))))
			check(t, at(4, api.ErrOrder), l, 2, 0, 0, 0, 2, 1, 1, 0, 0, 1)
			check(t, nil, l, 2, 0, 0, 0, 2, 1, 0, 1, 1, 0)
			check(t, nil, l, 1, 0, 0, 0, 2, 0, 2, 1, 0, 1)
		}
	}
	// What is both, and another's Sc, write too.
	l = harts(hart(lr(0, 0), sc(0, 7)), hart(both(0, 0, 0)))
	check(t, at(2, api.ErrOrder), l, 0, 0, 1, 0, 0, 1)
	l = harts(hart(lr(0, 0), sc(0, 7)), hart(lr(0, 0), sc(0, 7)))
	check(t, at(3, api.ErrOrder), l, 0, 0, 1, 0, 0, 1, 1, 1)
	l = harts(hart(lr(0, 0), sc(0, 7)), hart(lr(0, 7), sc(0, 8)))
	check(t, nil, l, 0, 0, 0, 1, 1, 0, 1, 1)
	// What only reads does no harm, and an Lr may have no Sc.
	l = harts(hart(lr(0, 0), sc(0, 7)), hart(read(0, 0), lr(0, 0)), hart(lr(4, 0), write(4, 3)))
	check(t, nil, l, 0, 0, 1, 0, 1, 1, 0, 1, 2, 0, 2, 1)
	l = harts(hart(lr(0, 0), write(0, 7)), hart(write(0, 3)))
	check(t, nil, l, 0, 0, 1, 0, 0, 1)
}

func TestCheckPairsOwn(t *testing.T) { // P14.2: what the hart itself wrote between does no harm, and hides nothing
	l := harts(hart(lr(0, 0), write(0, 3), sc(0, 7)), hart(write(0, 5)))
	check(t, nil, l, 0, 0, 0, 1, 0, 2, 1, 0)
	check(t, at(3, api.ErrOrder), l, 0, 0, 1, 0, 0, 1, 0, 2)
	check(t, at(3, api.ErrOrder), l, 0, 0, 0, 1, 1, 0, 0, 2)
	// Likewise where another hart's number is higher or lower, and two others wrote.
	l = harts(hart(write(0, 5)), hart(lr(0, 0), write(0, 3), sc(0, 7)), hart(write(0, 6)))
	check(t, nil, l, 1, 0, 1, 1, 1, 2, 0, 0, 2, 0)
	check(t, at(3, api.ErrOrder), l, 1, 0, 0, 0, 1, 1, 1, 2, 2, 0)
	check(t, at(4, api.ErrOrder), l, 1, 0, 2, 0, 0, 0, 1, 1, 1, 2)
	// An Lr that reads what its hart wrote and others don't see yet: only what lies behind that write counts.
	l = harts(hart(write(0, 5), lr(0, 5), sc(0, 7)), hart(write(0, 6)))
	check(t, nil, l, 0, 1, 1, 0, 0, 0, 0, 2)
	check(t, nil, l, 1, 0, 0, 1, 0, 0, 0, 2)
	check(t, at(3, api.ErrOrder), l, 0, 1, 0, 0, 1, 0, 0, 2)
	check(t, at(3, api.ErrOrder), l, 0, 0, 0, 1, 1, 0, 0, 2)
	// Only a part of it is its own: of the other bytes what lies behind what was read there counts.
	l = harts(hart(write(0, 5, bytes(1)), lr(0, 5), sc(0, 7)), hart(write(1, 0, bytes(1))))
	check(t, at(3, api.ErrOrder), l, 0, 1, 1, 0, 0, 0, 0, 2)
	check(t, nil, l, 1, 0, 0, 1, 0, 0, 0, 2)
}

func TestCheckPairsLast(t *testing.T) { // P14.2: around the first Sc in order, and behind all values
	l := harts(hart(lr(0, 0), sc(0, 1)), hart(lr(4, 0), sc(4, 1)), hart(write(0, 2), write(4, 2), read(8, 0)))
	order := []int{0, 0, 1, 0, 2, 0, 2, 1, 1, 1, 0, 1, 2, 2}
	check(t, at(4, api.ErrOrder), l, order...)
	order[8], order[10] = 0, 1
	check(t, at(4, api.ErrOrder), l, order...)
	l[2][2].Got = 1
	check(t, at(6, api.ErrValue), l, order...)
	l[2][0].Addr, l[2][2].Got = 12, 0
	check(t, at(5, api.ErrOrder), l, order...)
	l[2][1].Addr = 16
	check(t, nil, l, order...)
}

func TestCheckWrongFirst(t *testing.T) { // P0.1: whatever first is
	l := harts(hart(read(0, 0), write(4, 1), read(4, 1)))
	order := []int{0, 0, 0, 1, 0, 2}
	checkFirst(t, nil, nil, l, order...)
	fails := func(addr uint32) byte { panic(addr) }
	checkFirst(t, nil, fails, l, order...)
	checkFirst(t, nil, func(addr uint32) byte { return []byte{}[addr] }, l, order...)
	checkFirst(t, nil, func(uint32) byte { panic(nil) }, l, order...)
	l[0][0].Got = 1
	checkFirst(t, at(0, api.ErrValue), nil, l, order...)
	checkFirst(t, at(0, api.ErrValue), fails, l, order...)
	// One that spoils what was handed in while it is looked at.
	good := refs(order...)
	err := wmo.Check(l, good, func(addr uint32) byte {
		l[0][0], l[0][2] = api.Op{}, api.Op{Kind: api.Read, Size: 1 << 20}
		l[0] = nil
		clear(good)
		return byte(1 - min(addr, 1))
	})
	if err != nil {
		t.Error(err)
	}
}
