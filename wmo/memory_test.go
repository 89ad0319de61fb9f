package wmo_test

import (
	"reflect"
	"slices"
	"testing"

	"corral/api"
	"corral/wmo"
)

// much is operations of which all that Check asks is asked.
func much() ([][]api.Op, []wmo.Ref) {
	l := harts(
		hart(write(0, 5), lr(0, 5), barrier(1, 1), sc(0, 7, ctrl(1)), read(4, 3, addr(1))),
		hart(write(4, 3, data()), both(8, 0, 9), read(0, 7, bytes(1))),
	)
	return l, refs(0, 1, 0, 0, 1, 0, 0, 3, 1, 1, 0, 4, 1, 2)
}

func TestArguments(t *testing.T) { // P0.4: what is handed in is not changed, and what lies behind its length is not looked at
	l, order := much()
	if err := wmo.Check(l, order, zero); err != nil {
		t.Fatal(err)
	}
	// Behind the length of each list lies what would be wrong.
	bad := read(1, 1, kind(9))
	long := append(slices.Clone(l), hart(bad))[:len(l)]
	for h := range long {
		long[h] = append(slices.Clone(long[h]), bad)[:len(long[h])]
		for n := range long[h] {
			o := &long[h][n]
			o.AddrDeps = append(slices.Clone(o.AddrDeps), -1)[:len(o.AddrDeps)]
			o.DataDeps = append(slices.Clone(o.DataDeps), 99)[:len(o.DataDeps)]
			o.Ctrl = append(slices.Clone(o.Ctrl), -1)[:len(o.Ctrl)]
		}
	}
	more := append(slices.Clone(order), wmo.Ref{Hart: 0, At: 0}, wmo.Ref{Hart: -1})[:len(order)]
	before, was := copied(long), slices.Clone(more)
	b, is := wmo.Last(long, more, 0)
	if err := wmo.Check(long, more, zero); err != nil || wmo.Valid(long) != nil || b != 7 || !is {
		t.Error(err, b, is)
	}
	if !reflect.DeepEqual(copied(long), before) || !slices.Equal(more, was) || more[:len(more)+2][len(more)+1].Hart != -1 || long[0][:len(long[0])+1][len(long[0])].Kind != 9 {
		t.Error("what was handed in was changed")
	}
}

func TestEmpty(t *testing.T) { // P0.4: nil and the empty list are the same
	for _, l := range [][][]api.Op{nil, {}, {nil}, {{}}, {nil, {}}} {
		for _, order := range [][]wmo.Ref{nil, {}} {
			if err := wmo.Check(l, order, zero); err != nil {
				t.Error(err)
			}
		}
	}
	none := []int{}
	valid(t, hart(read(0, 0, addr(none...), data(none...), ctrl(none...))))
}

func TestErrorsAnew(t *testing.T) { // P0.4, P0.5: an error that a caller writes into is no other call's
	l := harts(hart(write(0, 1)), hart(read(0, 1)))
	for range 2 {
		for _, err := range []error{wmo.Check(l, refs(1, 0, 0, 0), zero), wmo.Check(l, refs(9, 0), zero), wmo.Valid(harts(hart(api.Op{})))} {
			where, is := err.(*api.At)
			if !is || where.Pos != 0 {
				t.Fatal(err)
			}
			where.Pos, where.Err = 77, nil
		}
	}
}
