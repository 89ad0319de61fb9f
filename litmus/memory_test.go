package litmus_test

import (
	"reflect"
	"slices"
	"testing"

	"corral/api"
	"corral/litmus"
)

// much is operations of which all is asked.
func much() [][]api.Op {
	return harts(
		hart(lr(0), barrier(1, 1), sc(0, 7, ctrl(0)), read(4, addr(0))),
		hart(write(4, 3, data()), both(8, 9), read(0, bytes(1))),
	)
}

func TestAnew(t *testing.T) { // P15.2, P0.4: whatever is written into a list, or appended to it, no other one shows it
	want, err := litmus.Outcomes(much()...)
	if err != nil || len(want) < 3 {
		t.Fatal(want, err)
	}
	keep := make([][]uint32, len(want))
	for n, x := range want {
		keep[n] = slices.Clone(x)
	}
	for n := range want {
		full := want[n][:cap(want[n])]
		for i := range full {
			full[i] = 99
		}
		for m := range want {
			if m != n && !slices.Equal(want[m], keep[m]) {
				t.Fatal(n, m, want)
			}
		}
		copy(want[n], keep[n])
	}
	again, _ := litmus.Outcomes(much()...)
	whole := want[:cap(want)]
	for n := range whole {
		whole[n] = of(77)
	}
	if !equal(again, keep) {
		t.Error(again, keep)
	}
	for _, x := range again {
		x[0] = 55
	}
	if once, _ := litmus.Outcomes(much()...); !equal(once, keep) {
		t.Error(once, keep)
	}
}

func TestArguments(t *testing.T) { // P0.4: what is handed in is not changed, and what lies behind its length is not looked at
	l := much()
	want, _ := litmus.Outcomes(l...)
	count, _ := litmus.Orders(l...)
	bad := read(1, kind(9))
	long := append(slices.Clone(l), hart(bad))[:len(l)]
	for h := range long {
		long[h] = append(slices.Clone(long[h]), bad)[:len(long[h])]
		for n := range long[h] {
			o := &long[h][n]
			o.Got = 0xABCD
			o.AddrDeps = append(slices.Clone(o.AddrDeps), -1)[:len(o.AddrDeps)]
			o.DataDeps = append(slices.Clone(o.DataDeps), 99)[:len(o.DataDeps)]
			o.Ctrl = append(slices.Clone(o.Ctrl), -1)[:len(o.Ctrl)]
		}
	}
	before := copied(long)
	outcomes(t, want, long...)
	orders(t, count, long...)
	x := append(slices.Clone(want[0]), 5)[:len(want[0])]
	allowed(t, true, x, long...)
	if !reflect.DeepEqual(copied(long), before) || !slices.Equal(x[:len(x)+1], append(slices.Clone(want[0]), 5)) {
		t.Error("what was handed in was changed")
	}
	for h := range long {
		if len(long[h][len(long[h]):cap(long[h])]) == 0 || long[h][:len(long[h])+1][len(long[h])].Kind != 9 {
			t.Error("what lies behind was changed")
		}
	}
}

func TestNotKept(t *testing.T) { // P0.4, P0.5: what a caller then writes into what it handed in, no answer shows
	l := much()
	all, _ := litmus.Outcomes(l...)
	keep := make([][]uint32, len(all))
	for n, x := range all {
		keep[n] = slices.Clone(x)
	}
	for h := range l {
		clear(l[h])
	}
	if !equal(all, keep) {
		t.Error(all, keep)
	}
	outcomes(t, keep, much()...)
}

func TestEmptyLists(t *testing.T) { // P0.4: nil and the empty list are the same
	outcomes(t, got(of(0)), []api.Op{}, hart(read(0, addr([]int{}...), data([]int{}...), ctrl([]int{}...))), nil)
	outcomes(t, got(nil), [][]api.Op{}...)
	allowed(t, true, []uint32{}, hart(write(0, 1)))
}

func TestErrorsAnew(t *testing.T) { // P0.4, P0.5: an error that a caller writes into is no other call's
	for range 2 {
		_, err := litmus.Outcomes(hart(read(0), read(2)))
		where, is := err.(*api.At)
		if !is || where.Pos != 1 {
			t.Fatal(err)
		}
		where.Pos, where.Err = 77, nil
	}
}
