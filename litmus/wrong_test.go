package litmus_test

import (
	"math"
	"slices"
	"testing"

	"corral/api"
	"corral/litmus"
)

// line is a list of n operations that are alike.
func line(n int, o api.Op) []api.Op { return slices.Repeat(hart(o), n) }

func TestMany(t *testing.T) { // P15.1: no more than 7 that are no Barriers, of all harts together
	for _, o := range []api.Op{read(0), write(0, 1), both(0, 1), lr(0)} {
		wrong(t, api.ErrMany, line(8, o))
		wrong(t, api.ErrMany, line(20000, o))
		wrong(t, api.ErrMany, line(4, o), nil, line(4, o))
		wrong(t, api.ErrMany, slices.Repeat(harts(hart(o)), 8)...)
		orders(t, 1, line(7, o))
		orders(t, 35, line(4, o), nil, line(3, o))
	}
	l := slices.Concat(line(4, read(0)), hart(barrier(3, 3)), line(4, read(0)))
	wrong(t, api.ErrMany, l)
	outcomes(t, got(make([]uint32, 7)), l[1:])
	outcomes(t, got(make([]uint32, 7)), l[:8])
}

func TestManyBarriers(t *testing.T) { // P15.1: Barriers are not counted, as long as wmo.Valid takes them
	l := slices.Concat(line(10, barrier(0, 0)), hart(write(0, 1)), line(19980, barrier(2, 1)), hart(read(4)), line(4, barrier(3, 3)))
	other := hart(write(4, 1), barrier(3, 3), read(0), barrier(0, 0))
	outcomes(t, got(of(0, 1), of(1, 0), of(1, 1)), l, other)
	orders(t, 6, l, other)
	wrong(t, api.ErrMany, append(l, barrier(0, 0)), other)
	// The last ones of a long list, of which nothing has to stay in order.
	long := line(19993, barrier(0, 0))
	for n := range uint32(7) {
		long = append(long, read(4*n))
	}
	orders(t, 5040, long)
	// As many harts as there may be, and one more.
	all := slices.Repeat(harts(hart(barrier(3, 3))), 64)
	all[3], all[63] = hart(write(0, 1)), hart(read(0))
	outcomes(t, got(of(0), of(1)), all...)
	wrong(t, api.ErrMany, append(all, nil)...)
}

func TestShape(t *testing.T) { // P15.1: wmo.Valid's
	good := hart(read(0), barrier(3, 3))
	for _, o := range []api.Op{
		{}, read(0, kind(5)), read(0, kind(-1)), read(0, kind(math.MaxInt)),
		read(0, bytes(3)), read(0, bytes(0)), write(0, 1, bytes(8)), read(0, bytes(math.MinInt)), read(2), write(1, 1, bytes(2)),
		both(0, 1, bytes(2)), both(0, 1, paired), barrier(3, 3, bytes(4)), barrier(3, 3, paired),
		lr(0, bytes(2)), sc(0, 1),
		read(0, addr(2)), read(0, data(-1)), write(0, 1, ctrl(0, 7)), barrier(0, 0, addr(2)),
	} {
		wrong(t, at(2, api.ErrShape), append(hart(good...), o))
		wrong(t, at(2, api.ErrShape), append(hart(good...), o), hart(api.Op{}))
	}
	wrong(t, at(5, api.ErrShape), good, nil, good, hart(read(4), read(0, bytes(3))))
	wrong(t, at(1, api.ErrShape), hart(lr(0), sc(4, 1)))
	wrong(t, at(2, api.ErrShape), hart(lr(0), sc(0, 1), sc(0, 1)))
}

func TestShapeFirst(t *testing.T) { // P15.1: wmo.Valid's come ahead of too many
	bad := append(line(9, read(0)), read(0, bytes(3)))
	wrong(t, at(9, api.ErrShape), bad)
	wrong(t, at(0, api.ErrShape), hart(read(2)), bad)
	wrong(t, api.ErrMany, append(line(20000, barrier(0, 0)), read(2)))
	wrong(t, api.ErrMany, append(make([][]api.Op, 64), bad)...)
}

func TestWant(t *testing.T) { // P15.1: a list that is none of an outcome's length is not among them
	l := harts(hart(read(0), both(4, 1)), hart(read(4)))
	allowed(t, true, of(0, 0, 1), l...)
	for _, x := range got(nil, of(), of(0), of(0, 0), of(0, 0, 1, 0), of(0, 0, 2), of(1, 0, 0), make([]uint32, 1000)) {
		allowed(t, false, x, l...)
	}
}

// fuzzed is an operation of four bytes, of whatever shape.
func fuzzed(b []byte) api.Op {
	o := api.Op{Kind: int(b[0]&7) - 1, Size: int(b[1]&7) - 1, Addr: uint32(int8(b[2]) >> 2), Value: uint32(b[3]), Got: uint32(b[3] >> 4), Pred: int(b[1] >> 3 & 3), Succ: int(b[1] >> 5 & 3)}
	o.Paired, o.Aq, o.Rl = b[0]&8 != 0, b[0]&16 != 0, b[0]&32 != 0
	if b[0]&64 != 0 {
		o.AddrDeps, o.DataDeps, o.Ctrl = []int{int(b[2] & 7)}, []int{int(b[3] & 3)}, []int{int(b[3]) - 3}
	}
	return o
}

func FuzzAny(f *testing.F) { // P15.1, P0.1
	f.Add([]byte{3, 5, 0, 1, 2, 5, 0, 1, 2, 5, 4, 1, 3, 5, 4, 1})
	f.Add([]byte{10, 5, 0, 1, 3, 5, 0, 1, 11, 5, 0, 9})
	f.Add([]byte{0, 0, 0, 0})
	f.Fuzz(func(t *testing.T, b []byte) {
		l := make([][]api.Op, 3)
		for n := 0; len(b) >= 4 && n < 9; n, b = n+1, b[4:] {
			l[n%3] = append(l[n%3], fuzzed(b))
		}
		all, err := litmus.Outcomes(l...)
		n, bad := litmus.Orders(l...)
		if !same(err, bad) || err != nil && (len(all) > 0 || n != 0) || err == nil && (len(all) == 0 || len(all) > n) {
			t.Fatal(all, err, n, bad)
		}
		for _, x := range all {
			allowed(t, true, x, l...)
		}
	})
}
