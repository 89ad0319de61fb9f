package litmus_test

import (
	"slices"
	"testing"

	"corral/api"
	"corral/litmus"
)

// change is something that an operation has beside its kind and its bytes.
type change func(o *api.Op)

func op(o api.Op, changes []change) api.Op {
	for _, c := range changes {
		c(&o)
	}
	return o
}

// read, write and both are of a word, unless a change says otherwise.
func read(addr uint32, c ...change) api.Op {
	return op(api.Op{Kind: api.Read, Size: 4, Addr: addr}, c)
}

func write(addr, value uint32, c ...change) api.Op {
	return op(api.Op{Kind: api.Write, Size: 4, Addr: addr, Value: value}, c)
}

func both(addr, value uint32, c ...change) api.Op {
	return op(api.Op{Kind: api.Both, Size: 4, Addr: addr, Value: value}, c)
}

func barrier(pred, succ int, c ...change) api.Op {
	return op(api.Op{Kind: api.Barrier, Pred: pred, Succ: succ}, c)
}

// lr and sc are Paired ones.
func lr(addr uint32, c ...change) api.Op        { return read(addr, append(c, paired)...) }
func sc(addr, value uint32, c ...change) api.Op { return write(addr, value, append(c, paired)...) }

func paired(o *api.Op) { o.Paired = true }
func aq(o *api.Op)     { o.Aq = true }
func rl(o *api.Op)     { o.Rl = true }

// bytes, kind and the three of what it hangs on are changes with something to say.
func bytes(n int) change    { return func(o *api.Op) { o.Size = n } }
func kind(n int) change     { return func(o *api.Op) { o.Kind = n } }
func addr(on ...int) change { return func(o *api.Op) { o.AddrDeps = on } }
func data(on ...int) change { return func(o *api.Op) { o.DataDeps = on } }
func ctrl(on ...int) change { return func(o *api.Op) { o.Ctrl = on } }

func hart(l ...api.Op) []api.Op      { return l }
func harts(l ...[]api.Op) [][]api.Op { return l }

// got is lists of what was read.
func got(l ...[]uint32) [][]uint32 { return l }
func of(l ...uint32) []uint32      { return l }

func equal(a, b [][]uint32) bool { return slices.EqualFunc(a, b, slices.Equal) }

// outcomes holds that these are all that may come of it, and that Allowed says so: of these, and of no others with like numbers.
func outcomes(t *testing.T, want [][]uint32, l ...[]api.Op) {
	t.Helper()
	all, err := litmus.Outcomes(l...)
	if err != nil || !equal(all, want) {
		t.Errorf("%v, %v, not %v, of %+v", all, err, want, l)
	}
	for _, x := range nearby(want) {
		allowed(t, slices.ContainsFunc(want, func(y []uint32) bool { return slices.Equal(x, y) }), x, l...)
	}
}

// nearby is lists, and others that are no more than a number away from them.
func nearby(l [][]uint32) [][]uint32 {
	more := slices.Clone(l)
	for _, x := range l {
		more = append(more, append(slices.Clone(x), 0), append(of(0), x...))
		for n := range x {
			more = append(more, slices.Delete(slices.Clone(x), n, n+1))
			for _, v := range of(0, 1, 2, 3, x[n]+1, x[n]^1<<31) {
				y := slices.Clone(x)
				y[n] = v
				more = append(more, y)
			}
		}
	}
	return more
}

func allowed(t *testing.T, want bool, x []uint32, l ...[]api.Op) {
	t.Helper()
	if is, err := litmus.Allowed(x, l...); is != want || err != nil {
		t.Errorf("%v: %v, %v, not %v, of %+v", x, is, err, want, l)
	}
}

// never holds that this can't come of it, but that it can of what it becomes without barriers, Deps, Aq and Rl.
func never(t *testing.T, x []uint32, l ...[]api.Op) {
	t.Helper()
	allowed(t, false, x, l...)
	allowed(t, true, x, loose(l)...)
}

// loose is lists of which less has to stay in order.
func loose(l [][]api.Op) [][]api.Op {
	l = copied(l)
	for h := range l {
		l[h] = slices.DeleteFunc(l[h], func(o api.Op) bool { return o.Kind == api.Barrier })
		for n := range l[h] {
			o := &l[h][n]
			o.AddrDeps, o.DataDeps, o.Ctrl, o.Aq, o.Rl = nil, nil, nil, false, false
		}
	}
	return l
}

func orders(t *testing.T, want int, l ...[]api.Op) {
	t.Helper()
	if n, err := litmus.Orders(l...); n != want || err != nil {
		t.Errorf("%d, %v, not %d, of %+v", n, err, want, l)
	}
}

// wrong holds that all calls answer this error, and nothing beside it.
func wrong(t *testing.T, want error, l ...[]api.Op) {
	t.Helper()
	all, err := litmus.Outcomes(l...)
	if len(all) > 0 || !same(err, want) {
		t.Error("Outcomes:", all, err, "not", want)
	}
	for _, x := range got(nil, of(0), of(0, 0)) {
		if is, err := litmus.Allowed(x, l...); is || !same(err, want) {
			t.Error("Allowed:", is, err, "not", want)
		}
	}
	if n, err := litmus.Orders(l...); n != 0 || !same(err, want) {
		t.Error("Orders:", n, err, "not", want)
	}
}

// same tells whether two errors are one: a sentinel, or one around the same place.
func same(a, b error) bool {
	x, is := a.(*api.At)
	y, too := b.(*api.At)
	if is && too {
		return *x == *y
	}
	return a == b
}

func at(pos int, err error) error { return &api.At{Pos: pos, Err: err} }

// copied is lists and all that they have in new memory.
func copied(l [][]api.Op) [][]api.Op {
	l = slices.Clone(l)
	for h := range l {
		l[h] = slices.Clone(l[h])
		for n := range l[h] {
			o := &l[h][n]
			o.AddrDeps, o.DataDeps, o.Ctrl = slices.Clone(o.AddrDeps), slices.Clone(o.DataDeps), slices.Clone(o.Ctrl)
		}
	}
	return l
}
