package wmo_test

import (
	"slices"
	"testing"

	"corral/api"
	"corral/wmo"
)

// change is something that an operation has beside its kind and its bytes.
type change func(o *api.Op)

func op(kind int, addr uint32, changes []change) api.Op {
	o := api.Op{Kind: kind, Addr: addr, Size: 4}
	for _, c := range changes {
		c(&o)
	}
	return o
}

// read, write and both are of a word.
func read(addr, got uint32, c ...change) api.Op {
	return op(api.Read, addr, append(c, func(o *api.Op) { o.Got = got }))
}

func write(addr, value uint32, c ...change) api.Op {
	return op(api.Write, addr, append(c, func(o *api.Op) { o.Value = value }))
}

func both(addr, got, value uint32, c ...change) api.Op {
	return op(api.Both, addr, append(c, func(o *api.Op) { o.Got, o.Value = got, value }))
}

func barrier(pred, succ int, c ...change) api.Op {
	o := op(api.Barrier, 0, c)
	o.Size, o.Pred, o.Succ = 0, pred, succ
	return o
}

func paired(o *api.Op) { o.Paired = true }
func aq(o *api.Op)     { o.Aq = true }
func rl(o *api.Op)     { o.Rl = true }

// lr and sc are Paired ones.
func lr(addr, got uint32) api.Op                { return read(addr, got, paired) }
func sc(addr, value uint32, c ...change) api.Op { return write(addr, value, append(c, paired)...) }

// bytes, kind and the three of what it hangs on are changes with something to say.
func bytes(n int) change    { return func(o *api.Op) { o.Size = n } }
func kind(n int) change     { return func(o *api.Op) { o.Kind = n } }
func addr(on ...int) change { return func(o *api.Op) { o.AddrDeps = on } }
func data(on ...int) change { return func(o *api.Op) { o.DataDeps = on } }
func ctrl(on ...int) change { return func(o *api.Op) { o.Ctrl = on } }

func hart(l ...api.Op) []api.Op      { return l }
func harts(l ...[]api.Op) [][]api.Op { return l }

// refs is an order: a hart and a place, a hart and a place ...
func refs(l ...int) []wmo.Ref {
	var order []wmo.Ref
	for ; len(l) > 0; l = l[2:] {
		order = append(order, wmo.Ref{Hart: l[0], At: l[1]})
	}
	return order
}

// zero is a memory of nothing, low one whose bytes are the lowest ones of their addresses.
func zero(uint32) byte     { return 0 }
func low(addr uint32) byte { return byte(addr) }

// same tells whether two errors are one: a sentinel, or one around the same place.
func same(a, b error) bool {
	x, is := a.(*api.At)
	y, too := b.(*api.At)
	if is && too {
		return *x == *y
	}
	return a == b
}

func at(pos int, err error) error { return &api.At{Pos: pos, Err: err} }

// valid holds that these are operations.
func valid(t *testing.T, l ...[]api.Op) {
	t.Helper()
	if err := wmo.Valid(l); err != nil {
		t.Errorf("%v, of %+v", err, l)
	}
}

// invalid holds that these are none, for Check too.
func invalid(t *testing.T, want error, l ...[]api.Op) {
	t.Helper()
	if err := wmo.Valid(l); !same(err, want) {
		t.Errorf("Valid: %v, not %v, of %d lists", err, want, len(l))
	}
	if err := wmo.Check(l, refs(-1, 7), zero); !same(err, want) {
		t.Errorf("Check: %v, not %v, of %d lists", err, want, len(l))
	}
}

// check holds Check's answer, where memory is 0 at first; nil: good.
func check(t *testing.T, want error, l [][]api.Op, order ...int) {
	t.Helper()
	checkFirst(t, want, zero, l, order...)
}

func checkFirst(t *testing.T, want error, first func(uint32) byte, l [][]api.Op, order ...int) {
	t.Helper()
	if err := wmo.Check(l, refs(order...), first); !same(err, want) {
		t.Errorf("%v, not %v: %v of %+v", err, want, order, l)
	}
}

// copied is lists and all that they have in new memory.
func copied(l [][]api.Op) [][]api.Op {
	l = slices.Clone(l)
	for h := range l {
		l[h] = slices.Clone(l[h])
		for n := range l[h] {
			o := &l[h][n]
			o.AddrDeps, o.DataDeps, o.Ctrl = slices.Clone(o.AddrDeps), slices.Clone(o.DataDeps), slices.Clone(o.Ctrl)
		}
	}
	return l
}

// picks is numbers without a pattern, the same at each run.
type picks uint64

// below is the next one, less than n.
func (p *picks) below(n int) int {
	*p = *p*6364136223846793005 + 1442695040888963407
	return int(uint64(*p)>>33) % n
}

// once tells of one in so many.
func (p *picks) once(n int) bool { return p.below(n) == 0 }
