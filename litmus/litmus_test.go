package litmus_test

import (
	"slices"
	"testing"

	"corral/api"
	"corral/litmus"
)

// four is all that two reads of bits may have Got.
func four() [][]uint32 { return got(of(0, 0), of(0, 1), of(1, 0), of(1, 1)) }

func TestExamples(t *testing.T) { // P15.1: the chapter's examples
	outcomes(t, four(), hart(write(0, 1), read(4)), hart(write(4, 1), read(0)))
	outcomes(t, four()[1:], hart(write(0, 1), barrier(3, 3), read(4)), hart(write(4, 1), barrier(3, 3), read(0)))
}

func TestNothing(t *testing.T) { // P15.1: where nothing is read there is one list, of nothing
	for _, l := range [][][]api.Op{nil, {nil}, {nil, {}, nil}, {{barrier(3, 3)}}, {{write(0, 1)}}, {{write(0, 1), write(0, 2)}, {write(0, 3), barrier(0, 0)}}} {
		outcomes(t, got(nil), l...)
		allowed(t, true, nil, l...)
		allowed(t, true, of(), l...)
		allowed(t, false, of(0), l...)
	}
	for _, l := range [][][]api.Op{nil, {nil}, {nil, {}}, {{barrier(3, 3), barrier(1, 2)}, {barrier(0, 0)}}} {
		orders(t, 1, l...)
	}
}

func TestFirst(t *testing.T) { // P15.1: memory is 0 at first, wherever it lies
	for _, a := range of(0, 4, 1<<16, api.Doorbell, 1<<31, 0xFFFFFFFC) {
		outcomes(t, got(of(0)), hart(read(a)))
		outcomes(t, got(of(0)), hart(both(a, 7)))
		outcomes(t, got(of(0), of(9)), hart(read(a)), hart(write(a, 9)))
		outcomes(t, got(of(0)), hart(read(a)), hart(write(a^4, 9)))
	}
}

func TestGot(t *testing.T) { // P15.1: whatever Got is; nor does Value of what reads say anything
	for _, v := range of(0, 1, 77, 0xFFFFFFFF) {
		junk := func(o *api.Op) { o.Got = v }
		worth := func(o *api.Op) { o.Value = v }
		outcomes(t, four(), hart(write(0, 1, junk), read(4, junk, worth)), hart(write(4, 1, junk), read(0, junk, worth)))
		outcomes(t, got(of(0, 5), of(6, 0)), hart(both(0, 5, junk)), hart(both(0, 6, junk)))
		outcomes(t, got(of(0)), hart(read(0, bytes(1), junk)))
		allowed(t, v == 0, of(v), hart(read(0, junk)))
		orders(t, 2, hart(lr(0, junk), sc(0, 3, junk)), hart(write(0, 7, junk)))
	}
}

func TestHartByHart(t *testing.T) { // P15.1: what was read stands as it does in the lists, not in the order
	outcomes(t, got(of(1, 2, 3)), hart(write(0, 1), barrier(3, 3), read(0), write(4, 2), barrier(3, 3), read(4)), nil, hart(write(8, 3), read(8)))
	// The last hart's come last, though it may be done first; barriers and writes leave no place.
	outcomes(t, got(of(0, 1, 0, 2), of(2, 1, 0, 2)), hart(read(8), write(0, 1), barrier(2, 3), read(0)), hart(barrier(0, 0), read(12), write(8, 2), read(8)))
}

func TestRising(t *testing.T) { // P15.1: each list once, by rising numbers, the first ones first
	big := uint32(1) << 31
	outcomes(t, got(of(0), of(1), of(2), of(big), of(0xFFFFFFFF)), hart(read(0)), hart(write(0, big)), hart(write(0, 1)), hart(write(0, 0xFFFFFFFF)), hart(write(0, 2)))
	outcomes(t, got(of(0, 0), of(0, 5), of(big, 0), of(big, 5)), hart(read(0), read(4)), hart(write(0, big)), hart(write(4, 5)))
	// Two that write the same, and what is written as it was, are not told apart.
	outcomes(t, got(of(0), of(1)), hart(read(0)), hart(write(0, 1)), hart(write(0, 1)), hart(write(0, 0)))
	all, err := litmus.Outcomes(hart(read(0), read(4), read(8)), hart(write(0, 2)), hart(write(4, 3)), hart(write(8, 1)))
	if err != nil || len(all) != 8 || !slices.IsSortedFunc(all, slices.Compare) {
		t.Error(all, err)
	}
}

func TestPassing(t *testing.T) { // P15.1: a message that is passed on, by all that may keep it in order
	w := func(o api.Op) []api.Op { return hart(write(0, 1), barrier(2, 2), o) }
	outcomes(t, four(), hart(write(0, 1), write(4, 1)), hart(read(4), read(0)))
	kept := got(of(0, 0), of(0, 1), of(1, 1))
	for _, r := range [][]api.Op{
		{read(4), barrier(1, 1), read(0)},
		{read(4), barrier(3, 3), read(0)},
		{read(4, aq), read(0)},
		{read(4), read(0, rl)},
		{read(4, rl), read(0, aq)},
		{read(4), read(0, addr(0))},
		{read(4), read(0, data(0))},
	} {
		outcomes(t, kept, w(write(4, 1)), r)
		outcomes(t, kept, hart(write(0, 1), write(4, 1, rl)), r)
		outcomes(t, kept, hart(write(0, 1, aq), write(4, 1)), r)
		outcomes(t, four(), hart(write(0, 1), barrier(1, 2), write(4, 1)), r)
	}
	for _, r := range [][]api.Op{
		{read(4), read(0)},
		{read(4), read(0, ctrl(0))},
		{read(4), barrier(2, 3), read(0)},
		{read(4), barrier(3, 2), read(0)},
		{barrier(3, 3), read(4), read(0), barrier(3, 3)},
	} {
		outcomes(t, four(), w(write(4, 1)), r)
	}
	// By a store between whose data hang on what was read.
	never(t, of(1, 5, 0), w(write(4, 1)), hart(read(4), write(8, 5, data(0)), read(8), read(0, addr(2))))
}

func TestBuffering(t *testing.T) { // P15.1: loads that come late
	outcomes(t, four(), hart(read(0), write(4, 1)), hart(read(4), write(0, 1)))
	for _, c := range []change{data(0), addr(0), ctrl(0), rl} {
		outcomes(t, four()[:3], hart(read(0), write(4, 1, c)), hart(read(4), write(0, 1, c)))
		// One alone is not enough.
		outcomes(t, four(), hart(read(0), write(4, 1, c)), hart(read(4), write(0, 1)))
	}
	outcomes(t, four()[:3], hart(read(0), barrier(1, 2), write(4, 1)), hart(read(4), barrier(0, 0, addr(0)), write(0, 1)))
	outcomes(t, four(), hart(read(0), barrier(2, 2), write(4, 1)), hart(read(4), barrier(1, 1), write(0, 1)))
}

func TestFourHarts(t *testing.T) { // P15.1: two that write, two that read: all harts see writes in one order
	w, v := hart(write(0, 1)), hart(write(4, 1))
	allowed(t, true, of(1, 0, 1, 0), w, v, hart(read(0), read(4)), hart(read(4), read(0)))
	never(t, of(1, 0, 1, 0), w, v, hart(read(0), read(4, addr(0))), hart(read(4), barrier(1, 1), read(0)))
	// What one has read of another, and passed on, a third one sees.
	never(t, of(1, 1, 0), w, hart(read(0), write(4, 1, data(0))), hart(read(4), read(0, addr(0))))
}

func TestSameBytes(t *testing.T) { // P15.1: reads and writes of one place
	outcomes(t, got(of(0, 0), of(0, 1), of(1, 1)), hart(write(0, 1)), hart(read(0), read(0)))
	outcomes(t, got(of(0, 0), of(0, 1), of(0, 2), of(1, 1), of(1, 2), of(2, 2)), hart(write(0, 1), write(0, 2)), hart(read(0), read(0)))
	outcomes(t, got(of(0), of(2)), hart(read(0), write(0, 1)), hart(write(0, 2)))
	outcomes(t, got(of(1), of(2)), hart(write(0, 1), read(0)), hart(write(0, 2)))
	outcomes(t, got(of(0, 5), of(6, 0)), hart(both(0, 5)), hart(both(0, 6)))
	outcomes(t, got(of(0, 1, 2), of(0, 3, 1), of(2, 0, 1), of(2, 3, 0), of(3, 0, 2), of(3, 1, 0)), hart(both(0, 1)), hart(both(0, 2)), hart(both(0, 3)))
}

func TestOwn(t *testing.T) { // P15.1: a hart reads what it wrote, though no other sees it yet
	allowed(t, true, of(1, 0, 1, 0), hart(write(0, 1), read(0), read(4)), hart(write(4, 1), read(4), read(0)))
	allowed(t, true, of(1, 0, 1, 0), hart(write(0, 1), read(0), read(4, addr(1))), hart(write(4, 1), read(4), read(0, addr(1))))
	allowed(t, false, of(0, 0, 1, 0), hart(write(0, 1), read(0), read(4)), hart(write(4, 1), read(4), read(0)))
	// Not so of what is both: it is seen by all when its hart sees it.
	never(t, of(0, 1, 0, 0, 1, 0), hart(both(0, 1), read(0), read(4, addr(1))), hart(both(4, 1), read(4), read(0, addr(1))))
	// The last of its own, and none of what it has yet to write.
	outcomes(t, got(of(2)), hart(write(0, 1), write(0, 2), read(0), write(0, 3)))
	outcomes(t, got(of(0, 3)), hart(read(0), write(0, 3), read(0)))
}

func TestSizes(t *testing.T) { // P15.1: byte by byte
	outcomes(t, got(of(0), of(1), of(0x200), of(0x201)), hart(write(0, 0xF01, bytes(1))), hart(write(1, 2, bytes(1))), hart(read(0, bytes(2))))
	outcomes(t, got(of(0), of(0x22), of(0x11000000), of(0x11000022)), hart(write(7, 0x11, bytes(1))), hart(write(4, 0x33220022, bytes(2))), hart(read(4)))
	outcomes(t, got(of(0), of(0x1122)), hart(write(4, 0x11223344)), hart(read(6, bytes(2))))
	outcomes(t, got(of(0x11223344), of(0x11AA3344)), hart(write(4, 0x11223344), barrier(3, 3), read(4)), hart(write(6, 0xAA, bytes(1))))
	// A part its own, a part another's, a part of none.
	outcomes(t, got(of(0x0005), of(0x0605)), hart(write(0, 5, bytes(1)), read(0, bytes(4))), hart(write(1, 6, bytes(1))))
	// A word and its halves, at the last address.
	outcomes(t, got(of(0, 0), of(0, 0x8000), of(0x7FFF, 0), of(0x7FFF, 0x8000)), hart(write(0xFFFFFFFC, 0x80007FFF)), hart(read(0xFFFFFFFC, bytes(2)), read(0xFFFFFFFE, bytes(2))))
}

func TestPairs(t *testing.T) { // P15.1: paired ones stand as wmo.Check has it
	outcomes(t, got(of(0, 3), of(0, 7), of(7, 3)), hart(lr(0), sc(0, 3), read(0)), hart(write(0, 7)))
	orders(t, 2, hart(lr(0), sc(0, 3)), hart(write(0, 7)))
	orders(t, 3, hart(lr(0), write(0, 3)), hart(write(0, 7)))
	orders(t, 3, hart(lr(0), sc(0, 3)), hart(read(0)))
	orders(t, 3, hart(lr(0), sc(0, 3)), hart(write(4, 7)))
	orders(t, 2, hart(lr(0), sc(0, 3)), hart(write(3, 7, bytes(1))))
	// Two that take it: never both at once.
	outcomes(t, got(of(0, 1), of(2, 0)), hart(lr(0), sc(0, 1)), hart(lr(0), sc(0, 2)))
	orders(t, 2, hart(lr(0), sc(0, 1)), hart(lr(0), sc(0, 2)))
	outcomes(t, got(of(0, 1), of(2, 0)), hart(lr(0), sc(0, 1)), hart(both(0, 2)))
	outcomes(t, got(of(0, 0), of(0, 1), of(2, 0)), hart(lr(0), write(0, 1)), hart(lr(0), sc(0, 2)))
	// What the hart wrote itself does no harm; what another did, ahead of what the Lr read, neither.
	outcomes(t, got(of(0), of(9)), hart(lr(0), write(0, 3), sc(0, 7)), hart(write(0, 9)))
	orders(t, 2, hart(lr(0), write(0, 3), sc(0, 7)), hart(write(0, 9)))
	outcomes(t, got(of(5)), hart(write(0, 5), lr(0), sc(0, 7)))
	orders(t, 2, hart(write(0, 5), lr(0), sc(0, 7)))
	// Wherever the other's lies, but behind what the Lr read: the hart's own, that lies ahead of the Lr or behind it, or the other's.
	outcomes(t, got(of(5), of(6)), hart(write(0, 5), lr(0), sc(0, 7)), hart(write(0, 6)))
	orders(t, 6, hart(write(0, 5), lr(0), sc(0, 7)), hart(write(0, 6)))
	// Each pair for itself: of the 15 ways to lay the other's two among these four, 4 have one of them within its pair.
	orders(t, 11, hart(lr(0), sc(0, 1), barrier(3, 3), lr(4), sc(4, 1)), hart(write(4, 7), barrier(3, 3), write(0, 7)))
	outcomes(t, got(of(0, 0), of(0, 7)), hart(lr(4), lr(0), sc(0, 1)), hart(write(0, 7)))
}

func TestOrders(t *testing.T) { // P15.1: how many orders there are
	var free, chain, again []api.Op
	var apart [][]api.Op
	all := 1
	for n := range 7 {
		free, chain = append(free, write(uint32(4*n), 1)), append(chain, write(0, uint32(n)))
		again, apart = append(again, read(0)), append(apart, hart(write(0, 1)))
		all *= n + 1
		orders(t, all, free)
		orders(t, all, apart...)
		orders(t, 1, chain)
		orders(t, 1, again)
	}
	orders(t, 35, chain[:3], chain[3:])
	orders(t, 210, chain[:2], chain[2:5], chain[5:])
	orders(t, 144, slices.Concat(free[:3], hart(barrier(2, 2)), free[3:]))
	orders(t, 5040, slices.Concat(free[:3], hart(barrier(1, 1)), free[3:]))
	orders(t, 24, hart(write(0, 1), read(4)), hart(write(4, 1), read(0)))
	orders(t, 6, hart(write(0, 1), barrier(3, 3), read(4)), hart(write(4, 1), barrier(3, 3), read(0)))
	// It is orders that are counted, not outcomes, and not what is written.
	orders(t, 2, hart(write(0, 1)), hart(write(0, 1)))
	orders(t, 2, hart(read(0)), hart(read(4)))
}
