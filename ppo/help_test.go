package ppo_test

import (
	"slices"
	"testing"

	"corral/api"
	"corral/ppo"
)

// change is something that an operation has beside its kind and its bytes.
type change func(o *api.Op)

func op(kind int, addr uint32, size int, changes []change) api.Op {
	o := api.Op{Kind: kind, Addr: addr, Size: size}
	for _, c := range changes {
		c(&o)
	}
	return o
}

// read, write and both are of a word.
func read(addr uint32, c ...change) api.Op  { return op(api.Read, addr, 4, c) }
func write(addr uint32, c ...change) api.Op { return op(api.Write, addr, 4, c) }
func both(addr uint32, c ...change) api.Op  { return op(api.Both, addr, 4, c) }

func barrier(pred, succ int) api.Op {
	return api.Op{Kind: api.Barrier, Pred: pred, Succ: succ}
}

func paired(o *api.Op) { o.Paired = true }
func aq(o *api.Op)     { o.Aq = true }
func rl(o *api.Op)     { o.Rl = true }

// bytes, kind and the three of what it hangs on are changes with something to say.
func bytes(n int) change        { return func(o *api.Op) { o.Size = n } }
func kind(n int) change         { return func(o *api.Op) { o.Kind = n } }
func addr(on ...int) change     { return func(o *api.Op) { o.AddrDeps = on } }
func data(on ...int) change     { return func(o *api.Op) { o.DataDeps = on } }
func ctrl(on ...int) change     { return func(o *api.Op) { o.Ctrl = on } }
func list(l ...api.Op) []api.Op { return l }

// why holds the rule of the first and the last operation against want, and Of too.
func why(t *testing.T, want int, l ...api.Op) {
	t.Helper()
	last := len(l) - 1
	if got := ppo.Why(l, 0, last); got != want {
		t.Errorf("%d, not %d, of %+v", got, want, l)
	}
	of := ppo.Of(l)
	if len(of) != len(l) {
		t.Fatalf("%d lists of %d", len(of), len(l))
	}
	if slices.Contains(of[0], last) != (want != 0) {
		t.Errorf("%v, and not %d, of %+v", of[0], want, l)
	}
}

// pairs holds Pairs of a list against want.
func pairs(t *testing.T, l []api.Op, want ...int) {
	t.Helper()
	if got := ppo.Pairs(l); !slices.Equal(got, want) {
		t.Errorf("%v, not %v, of %+v", got, want, l)
	}
}

// lists tells whether two answers of Of are the same.
func lists(a, b [][]int) bool { return slices.EqualFunc(a, b, slices.Equal) }

// copied is a list and all that it has in new memory.
func copied(l []api.Op) []api.Op {
	l = slices.Clone(l)
	for n := range l {
		o := &l[n]
		o.AddrDeps, o.DataDeps, o.Ctrl = slices.Clone(o.AddrDeps), slices.Clone(o.DataDeps), slices.Clone(o.Ctrl)
	}
	return l
}
