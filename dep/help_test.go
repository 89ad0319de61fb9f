package dep_test

import (
	"slices"
	"testing"

	"corral/api"
	"corral/asm"
	"corral/dep"
)

// word is the word of a line.
func word(t *testing.T, line string) uint32 {
	t.Helper()
	l, err := asm.Program(line)
	if err != nil {
		t.Fatal(line, err)
	}
	return l[0]
}

// items is lines that were all done, an Sc too.
func items(t *testing.T, lines ...string) []dep.Item {
	t.Helper()
	var l []dep.Item
	for _, line := range lines {
		l = append(l, dep.Item{Word: word(t, line), Done: true})
	}
	return l
}

// equal tells whether two operations are one.
func equal(a, b api.Op) bool {
	return bare(a) == bare(b) && slices.Equal(a.AddrDeps, b.AddrDeps) && slices.Equal(a.DataDeps, b.DataDeps) && slices.Equal(a.Ctrl, b.Ctrl)
}

// plain is an operation without what it hangs on.
type plain struct {
	kind, size       int
	addr, value, got uint32
	paired, aq, rl   bool
	pred, succ       int
}

func bare(o api.Op) plain {
	return plain{o.Kind, o.Size, o.Addr, o.Value, o.Got, o.Paired, o.Aq, o.Rl, o.Pred, o.Succ}
}

// holds holds the operations of items against these.
func holds(t *testing.T, l []dep.Item, want ...api.Op) {
	t.Helper()
	if got := dep.Ops(l); !slices.EqualFunc(got, want, equal) {
		t.Errorf("%+v\n not %+v", got, want)
	}
}

// last is the last operation of items.
func last(t *testing.T, l []dep.Item) api.Op {
	t.Helper()
	ops := dep.Ops(l)
	if len(ops) == 0 {
		t.Fatal("no operation")
	}
	return ops[len(ops)-1]
}

// hangs holds what the last operation of items hangs on.
func hangs(t *testing.T, l []dep.Item, addr, data, ctrl []int) {
	t.Helper()
	if o := last(t, l); !slices.Equal(o.AddrDeps, addr) || !slices.Equal(o.DataDeps, data) || !slices.Equal(o.Ctrl, ctrl) {
		t.Errorf("%v %v %v, not %v %v %v", o.AddrDeps, o.DataDeps, o.Ctrl, addr, data, ctrl)
	}
}

// on is a list of places.
func on(l ...int) []int { return l }
