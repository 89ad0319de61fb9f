package ppo_test

import (
	"math"
	"slices"
	"testing"

	"corral/api"
	"corral/ppo"
)

func TestExamples(t *testing.T) { // P13.1
	why(t, 0, read(0), write(4))
	why(t, 4, read(0), barrier(1, 2), write(4))
}

func TestNothing(t *testing.T) { // P13.1, P13.2, P0.4: nil and the empty list are the same
	for _, l := range [][]api.Op{nil, {}, make([]api.Op, 0, 4)} {
		if of, p := ppo.Of(l), ppo.Pairs(l); len(of)+len(p) != 0 || ppo.Why(l, 0, 1) != 0 || ppo.Why(l, 0, 0) != 0 || ppo.Why(l, -1, 0) != 0 {
			t.Error(of, p)
		}
	}
	if of := ppo.Of(list(write(0))); len(of) != 1 || len(of[0]) != 0 {
		t.Error(of)
	}
}

func TestNoPair(t *testing.T) { // P13.1, P0.7: 0 of what is no such pair
	l := list(write(0, aq, rl), write(0, aq, rl, addr(0)), write(0, aq, rl, addr(0, 1)))
	if ppo.Why(l, 0, 1) != 1 || ppo.Why(l, 1, 2) != 1 || ppo.Why(l, 0, 2) != 1 {
		t.Error("of pairs")
	}
	for _, x := range [][2]int{{0, 0}, {1, 1}, {2, 2}, {1, 0}, {2, 0}, {2, 1}, {-1, 0}, {-1, 2}, {-2, -1}, {0, 3}, {2, 3}, {3, 4}, {3, 3}, {0, -1}, {math.MinInt, 1}, {0, math.MaxInt}, {math.MinInt, math.MaxInt}} {
		if got := ppo.Why(l, x[0], x[1]); got != 0 {
			t.Error(x, got)
		}
	}
}

func TestBarrierIsNone(t *testing.T) { // P13.1, P13.2: neither is a Barrier, whatever else it has
	full := api.Op{Kind: api.Barrier, Size: 4, Pred: 3, Succ: 3, Aq: true, Rl: true, Paired: true, AddrDeps: []int{0, 1}, DataDeps: []int{0, 1}, Ctrl: []int{0, 1}}
	why(t, 0, write(0, aq, rl), full)
	why(t, 0, full, write(0, aq, rl, addr(0), data(0), ctrl(0)))
	why(t, 0, full, full)
	why(t, 0, full, barrier(3, 3), full)
	why(t, 0, read(0, paired), full)
	why(t, 0, full, write(0, paired))
	of := ppo.Of(list(full, write(0), full, write(0), full, write(0)))
	if !lists(of, [][]int{nil, {3, 5}, nil, {5}, nil, nil}) {
		t.Error(of)
	}
	// One that lies between writes nothing: it neither hides nor hands on.
	why(t, 2, read(0), api.Op{Kind: api.Barrier, Size: 4}, read(0))
	why(t, 0, read(0), api.Op{Kind: api.Barrier, Size: 4, Addr: 4, DataDeps: []int{0}, AddrDeps: []int{0}}, read(4))
	why(t, 12, read(0), write(4, data(0)), api.Op{Kind: api.Barrier, Size: 4, Addr: 4}, read(4))
}

func TestOverwritten(t *testing.T) { // P13.1, rule 1
	for _, a := range []api.Op{read(8), write(8), both(8), read(8, paired), write(8, paired)} {
		for _, b := range []api.Op{write(8), both(8), write(8, paired)} {
			why(t, 1, a, b)
			why(t, 1, a, write(8), b)
			why(t, 1, a, barrier(0, 0), b)
		}
	}
	why(t, 0, read(8), write(12))
	why(t, 0, write(8), write(4))
	why(t, 0, write(8), read(8))
	why(t, 0, both(8), write(12))
}

func TestReadAgain(t *testing.T) { // P13.1, rule 2
	for _, a := range []api.Op{read(8), both(8), read(8, paired)} {
		why(t, 2, a, read(8))
		why(t, 2, a, read(8, paired))
		why(t, 2, a, read(8), read(8))
		why(t, 2, a, write(12), read(8))
		why(t, 2, a, write(4), barrier(0, 3), read(8))
	}
	why(t, 0, read(8), write(8), read(8))
	why(t, 0, read(8), both(8), read(8))
	why(t, 0, read(8), write(8, paired), read(8))
	why(t, 0, read(8), write(8), write(0), read(8))
	why(t, 0, read(8), write(0), write(8), read(8))
	why(t, 0, read(8), read(12))
	why(t, 0, write(8), read(8))
}

func TestWrittenBetween(t *testing.T) { // P13.1, rule 2: only a byte that both have counts
	half := bytes(2)
	why(t, 2, read(8, half), write(10, half), read(8))
	why(t, 2, read(8), write(10, half), read(8, half))
	why(t, 0, read(8, half), write(8, bytes(1)), read(8))
	why(t, 0, read(8, half), write(9, bytes(1)), read(8))
	why(t, 2, read(9, bytes(1)), write(8, bytes(1)), write(10, half), read(8))
	why(t, 0, read(9, bytes(1)), write(8, half), write(10, half), read(8))
	why(t, 0, read(8), write(11, bytes(1)), read(8))
	// One byte is enough, though others are left.
	why(t, 0, read(8), write(10, half), write(8, bytes(1)), read(8))
	// What is ahead of a, or behind b, is not between.
	l := list(write(8), read(8), read(8), write(8))
	if ppo.Why(l, 1, 2) != 2 {
		t.Error(ppo.Why(l, 1, 2))
	}
}

func TestReadAtomic(t *testing.T) { // P13.1, rule 3
	for _, a := range []api.Op{both(8), both(8, paired)} {
		why(t, 3, a, write(8), read(8))
		why(t, 3, a, both(8), read(8))
		why(t, 3, a, write(8), read(8, paired))
		why(t, 0, a, write(12), read(12))
	}
	why(t, 3, write(8, paired), read(8))
	why(t, 3, write(8, paired), write(8), read(8))
	why(t, 3, write(8, paired), read(11, bytes(1)))
	why(t, 3, both(8), write(8, bytes(1)), read(8, bytes(2)))
	why(t, 2, both(8), write(8, bytes(1)), read(10, bytes(2)))
	why(t, 0, write(8, paired), read(12))
	why(t, 0, write(8), read(8))
	why(t, 0, read(8, paired), write(8), read(8))
}

func TestFenced(t *testing.T) { // P13.1, rule 4: each Pred and Succ, each kind
	kinds := []func(uint32, ...change) api.Op{read, write, both}
	for pred := range 4 {
		for succ := range 4 {
			for i, a := range kinds {
				for j, b := range kinds {
					want := 0
					if pred&(i+1) != 0 && succ&(j+1) != 0 {
						want = 4
					}
					why(t, want, a(0), barrier(pred, succ), b(8))
					why(t, want, a(0), read(16), barrier(pred, succ), write(24), b(8))
					// Higher bits, and a sign, say nothing.
					why(t, want, a(0), barrier(pred|0x7C, succ|0x100), b(8))
					why(t, want, a(0), barrier(pred-4, succ+math.MinInt), b(8))
				}
			}
		}
	}
}

func TestBarriers(t *testing.T) { // P13.1, rule 4: one has to do both
	why(t, 0, read(0), barrier(1, 1), barrier(2, 2), write(8))
	why(t, 0, read(0), barrier(2, 2), barrier(1, 1), write(8))
	why(t, 4, read(0), barrier(1, 1), barrier(1, 2), write(8))
	why(t, 4, read(0), barrier(3, 3), barrier(0, 0), write(8))
	why(t, 4, both(0), barrier(1, 1), barrier(2, 2), write(8))
	l := list(read(0), barrier(3, 3), write(8), write(16), barrier(2, 1), read(24))
	if of := ppo.Of(l); !lists(of, [][]int{{2, 3, 5}, nil, {5}, {5}, nil, nil}) {
		t.Error(of)
	}
	// It has to lie between.
	l = list(barrier(3, 3), read(0), write(8), barrier(3, 3))
	if ppo.Why(l, 1, 2) != 0 {
		t.Error(ppo.Why(l, 1, 2))
	}
}

func TestAcquireRelease(t *testing.T) { // P13.1, rules 5 to 7
	kinds := []func(uint32, ...change) api.Op{read, write, both}
	for _, a := range kinds {
		for _, b := range kinds {
			why(t, 5, a(0, aq), b(8))
			why(t, 5, a(0, aq), write(16), b(8))
			why(t, 5, a(0, aq, rl), b(8, aq, rl))
			why(t, 6, a(0), b(8, rl))
			why(t, 6, a(0, rl), b(8, rl))
			why(t, 6, a(0), read(16), b(8, aq, rl))
			why(t, 7, a(0, rl), b(8, aq))
			why(t, 0, a(0, rl), b(8))
			why(t, 0, a(0), b(8, aq))
			why(t, 0, a(0), read(16, aq, rl), b(8))
		}
	}
}

func TestPaired(t *testing.T) { // P13.1, rule 8
	lr, sc := read(0, paired), write(8, paired)
	why(t, 8, lr, sc)
	why(t, 8, lr, read(16), write(24), barrier(0, 0), both(16), sc)
	why(t, 0, lr, lr, sc)
	why(t, 0, lr, write(16, paired), sc)
	why(t, 0, lr, both(16, paired), sc)
	why(t, 0, lr, read(16, paired, kind(9)), sc)
	why(t, 0, lr, api.Op{Kind: api.Barrier, Paired: true}, sc)
	why(t, 0, read(0), sc)
	why(t, 0, lr, write(8))
	why(t, 0, lr, read(8, paired))
	why(t, 1, lr, write(0, paired))
}

func TestPairs(t *testing.T) { // P13.1: Pairs
	lr, sc := read(0, paired), write(0, paired)
	pairs(t, list(lr, sc), -1, 0)
	pairs(t, list(lr, sc, sc), -1, 0, -1)
	pairs(t, list(sc, lr, sc), -1, -1, 1)
	pairs(t, list(lr, lr, sc, lr, sc), -1, -1, 1, -1, 3)
	pairs(t, list(lr, read(0), write(0), both(0), barrier(3, 3), sc), -1, -1, -1, -1, -1, 0)
	pairs(t, list(lr, write(100, paired)), -1, 0) // wherever it lies
	for _, k := range []int{api.Both, api.Barrier, 0, -1, 5, 100} {
		between := read(0, paired, kind(k))
		pairs(t, list(lr, between, sc), -1, -1, -1)
		pairs(t, list(between, lr, sc), -1, -1, 1)
		pairs(t, list(lr, between), -1, -1)
		pairs(t, list(between, sc), -1, -1)
		pairs(t, list(lr, read(0, kind(k)), sc), -1, -1, 0)
	}
	pairs(t, list(read(0), write(0), lr, write(0)), -1, -1, -1, -1)
}

func TestHangs(t *testing.T) { // P13.1, rules 9 to 11
	for _, a := range []api.Op{read(0), write(0), both(0), read(0, paired)} {
		for _, b := range []func(uint32, ...change) api.Op{read, write, both} {
			why(t, 9, a, b(8, addr(0)))
			why(t, 9, a, b(8, addr(0), data(0), ctrl(0)))
			why(t, 10, a, b(8, data(0)))
			why(t, 10, a, b(8, data(0), ctrl(0)))
			why(t, 9, a, read(16), b(8, addr(0, 1)))
			why(t, 10, a, read(16), b(8, data(1, 0, 1))) // in whatever order
			why(t, 0, a, read(16), b(8, addr(1), data(1), ctrl(1)))
		}
		why(t, 11, a, write(8, ctrl(0)))
		why(t, 11, a, both(8, ctrl(0)))
		why(t, 11, a, read(16), write(8, ctrl(1, 0)))
		why(t, 0, a, read(8, ctrl(0)))
		why(t, 0, a, read(8, paired, ctrl(0)))
	}
}

func TestHandedOn(t *testing.T) { // P13.1, rule 12
	for _, b := range []api.Op{read(8), read(8, paired), read(11, bytes(1))} {
		for _, m := range []api.Op{write(8, data(0)), write(8, addr(0)), both(8, data(0)), write(8, paired, addr(5, 0))} {
			why(t, 12, read(0), m, b)
			why(t, 12, read(0), read(16), m, write(24), barrier(0, 0), b)
			why(t, 0, read(0), m, write(8), b)
			why(t, 0, read(0), m, both(8), b)
		}
		why(t, 0, read(0), write(8, ctrl(0)), b)
		why(t, 0, read(0), read(8, addr(0), data(0)), b)
		why(t, 0, read(0), write(8, data(1)), b)
		why(t, 0, read(0), write(12, data(0)), b)
	}
	why(t, 12, read(0), write(8, data(0)), both(8)) // b may write too
	why(t, 0, read(0), write(8, data(0)), write(8), both(8))
	why(t, 1, read(8), write(8, data(0)), both(8))
	why(t, 0, read(0), write(8, data(0)), write(12))
	why(t, 12, write(0), write(8, data(0)), read(8)) // whatever a does
}

func TestHandedOnBytes(t *testing.T) { // P13.1, rule 12: only a byte that m and b both have counts
	half := bytes(2)
	why(t, 12, read(0), write(8, data(0)), write(8, half), read(10, half))
	why(t, 0, read(0), write(8, data(0)), write(8, half), read(8))
	why(t, 12, read(0), write(8, half, data(0)), write(10, half), read(8))
	why(t, 0, read(0), write(8, half, data(0)), write(9, bytes(1)), read(8))
	// Two that write, one of which is hidden.
	why(t, 12, read(0), write(8, half, data(0)), write(10, half, data(0)), write(11, bytes(1)), read(8))
	why(t, 0, read(0), write(8, half), write(10, half, data(0)), write(11, bytes(1)), read(8))
	// It has to lie between a and b.
	l := list(write(8, data(1)), read(0), read(8), write(8, data(1)))
	if ppo.Why(l, 1, 2) != 0 {
		t.Error(ppo.Why(l, 1, 2))
	}
}

func TestBehindOne(t *testing.T) { // P13.1, rule 13
	for _, a := range []api.Op{read(0), write(0), both(0)} {
		for _, m := range []api.Op{read(8, addr(0)), write(8, addr(0)), both(8, addr(2, 0))} {
			why(t, 13, a, m, write(16))
			why(t, 13, a, m, both(16))
			why(t, 13, a, read(24), barrier(0, 0), m, read(24), write(16))
			why(t, 0, a, m, read(16))
		}
		why(t, 0, a, read(8, data(0), ctrl(0)), write(16))
		why(t, 0, a, read(8, addr(1)), write(16))
	}
	why(t, 13, read(0), read(8, kind(7), addr(0)), write(16)) // one of whatever kind
	why(t, 13, read(0), api.Op{Kind: api.Barrier, AddrDeps: []int{0}}, write(16))
	// m is neither a nor b, nor behind it.
	why(t, 0, read(0, addr(0)), write(16))
	l := list(read(0), write(16), read(8, addr(0)))
	if ppo.Why(l, 0, 1) != 0 {
		t.Error(ppo.Why(l, 0, 1))
	}
	l = list(read(8, addr(1)), read(0), write(16))
	if ppo.Why(l, 1, 2) != 0 {
		t.Error(ppo.Why(l, 1, 2))
	}
}

func TestFirst(t *testing.T) { // P13.1: the first of all rules that hold; each line takes away the one that held
	fence, m := barrier(3, 3), read(64, addr(0))
	all := []change{addr(0), data(0), ctrl(0), paired}
	why(t, 1, read(0, paired, aq, rl), fence, m, write(0, append(all, aq, rl)...))
	why(t, 4, read(0, paired, aq, rl), fence, m, write(8, append(all, aq, rl)...))
	why(t, 5, read(0, paired, aq, rl), m, write(8, append(all, aq, rl)...))
	why(t, 6, read(0, paired, rl), m, write(8, append(all, aq, rl)...))
	why(t, 7, read(0, paired, rl), m, write(8, append(all, aq)...))
	why(t, 8, read(0, paired), m, write(8, all...))
	why(t, 9, read(0), m, write(8, all...))
	why(t, 10, read(0), m, write(8, all[1:]...))
	why(t, 11, read(0), m, write(8, all[2:]...))
	why(t, 13, read(0), m, write(8))
	why(t, 0, read(0), read(64), write(8))
	m = write(8, data(0), addr(0))
	why(t, 2, both(0, aq, rl), fence, m, read(0, append(all, aq, rl)...))
	why(t, 3, both(0, aq, rl), fence, m, write(0), read(0, append(all, aq, rl)...))
	why(t, 4, both(0, aq, rl), fence, m, read(8, append(all, aq, rl)...))
	why(t, 5, both(0, aq, rl), m, read(8, append(all, aq, rl)...))
	why(t, 6, both(0, rl), m, read(8, append(all, aq, rl)...))
	why(t, 7, both(0, rl), m, read(8, append(all, aq)...))
	why(t, 9, both(0), m, read(8, all...))
	why(t, 10, both(0), m, read(8, all[1:]...))
	why(t, 12, both(0), m, read(8, all[2:]...))
	why(t, 0, both(0), write(8), read(8, all[2:]...))
	// 12 and 13 both, of one that reads and writes.
	why(t, 12, read(0), m, both(8))
	why(t, 13, read(0), m, both(16))
}

func TestMeet(t *testing.T) { // P13.1: a byte in common, from Addr to Addr and Size less 1
	for _, x := range []struct {
		a, b  uint32
		m, n  int
		meets bool
	}{
		{8, 8, 4, 4, true}, {8, 11, 4, 1, true}, {8, 12, 4, 1, false}, {8, 7, 4, 1, false}, {8, 7, 4, 2, true}, {8, 4, 4, 4, false}, {8, 5, 4, 4, true},
		{8, 9, 1, 1, false}, {9, 9, 1, 1, true}, {8, 0, 4, 100, true}, {50, 0, 1, 50, false}, {49, 0, 1, 50, true},
		{8, 8, 0, 4, false}, {8, 8, 4, 0, false}, {8, 8, 0, 0, false}, {8, 8, -1, 4, false}, {8, 8, math.MinInt, math.MaxInt, false}, {9, 8, 0, 4, false},
		{0xFFFFFFFC, 0, 4, 4, false}, {0xFFFFFFFC, 0xFFFFFFFF, 4, 1, true}, {0xFFFFFFFF, 0xFFFFFFFF, 1, 1, true}, {0xFFFFFFFF, 0, 1, math.MaxInt, true},
		{0, 0xFFFFFFFF, math.MaxInt, 1, true}, {5, 77, 1 << 32, 1, true}, {77, 76, 1<<32 - 1, 1, false}, {77, 76, 1 << 32, 1, true},
		// Words wrap: behind the last address comes the first.
		{0xFFFFFFFE, 0, 4, 1, true}, {0xFFFFFFFE, 1, 4, 4, true}, {0xFFFFFFFE, 2, 4, 4, false}, {0xFFFFFFFF, 0, 2, 4, true},
	} {
		want := 0
		if x.meets {
			want = 1
		}
		why(t, want, write(x.a, bytes(x.m)), write(x.b, bytes(x.n)))
		why(t, want, write(x.b, bytes(x.n)), write(x.a, bytes(x.m)))
		why(t, 2*want, read(x.a, bytes(x.m)), read(x.b, bytes(x.n)))
		why(t, 3*want, write(x.b, bytes(x.n), paired), read(x.a, bytes(x.m)))
		why(t, 12*want, read(1<<20, bytes(0)), write(x.a, bytes(x.m), data(0)), read(x.b, bytes(x.n)))
	}
}

func TestWide(t *testing.T) { // P13.1: what lies in three at once, of sizes of all sorts
	high := uint32(1) << 31
	// Two that have all bytes between them have two parts in common; what is written in one of them is hidden.
	a, b := read(0, bytes(1<<31+8)), read(high, bytes(1<<31+8))
	why(t, 2, a, b)
	why(t, 2, a, write(8, bytes(16)), write(high+8), write(high-4), b)
	why(t, 0, a, write(7, bytes(1)), b)
	why(t, 0, a, write(high+7, bytes(1)), b)
	why(t, 0, a, write(high-4, bytes(5)), b)
	why(t, 0, a, write(0xFFFFFFFF, bytes(2)), b)
	why(t, 0, a, write(3, bytes(math.MaxInt)), b)
	why(t, 2, a, write(3, bytes(-5)), b)
	why(t, 2, read(0, bytes(math.MaxInt)), read(9, bytes(math.MaxInt)))
	why(t, 0, read(0, bytes(math.MaxInt)), write(4, bytes(1)), read(9, bytes(math.MaxInt)))
	why(t, 2, read(0, bytes(4)), write(4, bytes(1<<32-4)), read(9, bytes(math.MaxInt)))
	why(t, 0, read(0, bytes(4)), write(4, bytes(1<<32-3)), read(9, bytes(math.MaxInt)))
	// Three that lie around all addresses, each two of which meet: what the one between writes is not what both have.
	a, b = read(0, bytes(0x60000000)), read(0x90000000, bytes(0x70000010))
	why(t, 2, a, write(0x50000000, bytes(0x50000000)), b)
	why(t, 0, a, write(0x50000000, bytes(0xB0000001)), b)
	// What is hidden by two at once is hidden, and what lies between them is not.
	why(t, 2, read(4), write(0), write(8), read(0, bytes(12)))
	why(t, 0, read(3, bytes(2)), write(8), write(0), read(0, bytes(12)))
	why(t, 12, read(100), write(4, data(0)), write(8, bytes(100)), write(0), write(9), write(1, bytes(2)), read(0, bytes(12)))
}

func TestNoKind(t *testing.T) { // P13.1: what is of no kind neither reads nor writes; the rules that ask for neither hold of it
	for _, k := range []int{0, 5, -1, math.MinInt, math.MaxInt, 7, 1 << 32, 1<<32 + 1} {
		no := kind(k)
		why(t, 0, read(0), write(0, no))
		why(t, 1, read(0, no), write(0))
		why(t, 0, read(0, no), read(0))
		why(t, 0, read(0), read(0, no))
		why(t, 0, both(0), read(0, no))
		why(t, 0, write(0, paired, no), read(0))
		why(t, 0, read(0, no), barrier(-1, -1), write(8))
		why(t, 0, read(0), barrier(-1, -1), write(8, no))
		why(t, 5, read(0, no, aq), write(8))
		why(t, 5, read(0, aq), write(8, no))
		why(t, 6, read(0, no), write(8, rl, no))
		why(t, 7, read(0, no, rl), write(8, aq, no))
		why(t, 9, read(0, no), read(8, no, addr(0)))
		why(t, 10, read(0, no), read(8, no, data(0)))
		why(t, 0, read(0), write(8, no, ctrl(0)))
		why(t, 0, read(0), write(8, no, data(0)), read(8))
		why(t, 2, read(8), write(8, no), read(8))
		why(t, 12, read(0, no), write(8, data(0)), read(8))
		why(t, 13, read(0, no), write(8, addr(0)), write(16))
		why(t, 0, read(0), read(8, addr(0)), write(16, no))
	}
}

func TestWrongDeps(t *testing.T) { // P13.1, P0.1: places that are none, or not ahead, say nothing
	wrong := []int{-1, 1, 2, 3, 7, math.MinInt, math.MaxInt}
	why(t, 0, read(0), read(8, addr(wrong...), data(wrong...), ctrl(wrong...)), write(16, addr(wrong[2:]...), data(wrong[2:]...), ctrl(-1, 3, 2)))
	why(t, 0, read(0), write(8, addr(wrong...), data(wrong...)), read(8))
	why(t, 9, read(0), write(8, addr(append(wrong, 0)...)))
	why(t, 10, read(0), write(8, data(append(wrong, 0, 0)...)))
	why(t, 11, read(0), write(8, ctrl(append(wrong, 0)...)))
	why(t, 12, read(0), write(8, data(append(wrong, 0)...)), read(8))
	why(t, 13, read(0), read(8, addr(append(wrong, 0)...)), write(16))
	// One that names a place behind its own does not keep that one in order with what is behind it.
	l := list(read(32, addr(1)), read(0), write(16))
	if of := ppo.Of(l); !lists(of, make([][]int, 3)) {
		t.Error(of)
	}
}

func TestOf(t *testing.T) { // P13.2: for each those behind it, rising
	l := list(read(0), write(0), read(0), read(8, addr(2)), write(16), barrier(2, 3), both(24, aq), read(16))
	want := [][]int{{1}, {6, 7}, {3, 4, 6}, nil, {6, 7}, nil, {7}, nil}
	if of := ppo.Of(l); !lists(of, want) {
		t.Error(of)
	}
}

func TestMany(t *testing.T) { // P13.2: long lists, with much in them
	const n = 2000
	var words, chain []api.Op
	var places []int
	for i := range n {
		words = append(words, write(0))
		// The address of each hangs on all ahead of it, and so do its data.
		chain = append(chain, op([]int{api.Read, api.Write}[i%2], uint32(i%3*4), 4, []change{addr(slices.Clone(places)...), data(slices.Clone(places)...)}))
		places = append(places, i)
	}
	for _, l := range [][]api.Op{words, chain} {
		of := ppo.Of(l)
		for a := range l {
			if !slices.Equal(of[a], places[a+1:]) {
				t.Fatal(a, len(of[a]))
			}
		}
	}
	// Reads of many words, each of them written far ahead of it: nothing has to stay in order.
	var far []api.Op
	for i := range 2 * n {
		far = append(far, op([]int{api.Write, api.Read}[i/n], uint32(i%n*4), 4, nil))
	}
	if of := ppo.Of(far); !lists(of, make([][]int, 2*n)) {
		t.Error("some have to stay in order")
	}
}
