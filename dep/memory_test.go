package dep_test

import (
	"slices"
	"testing"

	"corral/api"
	"corral/dep"
)

// shared is items whose operations hang on equal sets, more than one a list, in more than one place.
func shared(t *testing.T) []dep.Item {
	t.Helper()
	return two(t, "add x3, x1, x2", "addi x4, x3, 0", "beq x3, x4, 8", "sw x3, 0(x3)", "sw x3, 0(x4)", "amoadd.w x5, x4, (x3)", "fence 3, 3", "fence 3, 3", "beq x3, x4, 8", "sw x4, 0(x4)")
}

// spoil writes into a list, and into its spare room.
func spoil(l []int) {
	for i := range l {
		l[i] = -7
	}
	room := l[:cap(l)]
	for i := range room {
		room[i] = -7
	}
	_ = append(l, -8)
}

func TestNewMemory(t *testing.T) { // P12.2: whatever is written into one list, no other shows it
	l := shared(t)
	want := dep.Ops(l)
	lists := func(ops []api.Op) []*[]int {
		var all []*[]int
		for i := range ops {
			all = append(all, &ops[i].AddrDeps, &ops[i].DataDeps, &ops[i].Ctrl)
		}
		return all
	}
	for n := range lists(want) {
		got := dep.Ops(l)
		spoil(*lists(got)[n])
		*lists(got)[n] = slices.Clone(*lists(want)[n])
		if !slices.EqualFunc(got, want, equal) {
			t.Errorf("behind list %d: %+v", n, got)
		}
		if again := dep.Ops(l); !slices.EqualFunc(again, want, equal) {
			t.Errorf("of a call behind list %d: %+v", n, again)
		}
	}
}

func TestNewLists(t *testing.T) { // P12.2: the lists of operations and of places
	l := shared(t)
	first, want := dep.Ops(l), dep.Ops(l)
	for i := range first[:cap(first)] {
		first[:cap(first)][i] = api.Op{Kind: -1}
	}
	if got := dep.Ops(l); !slices.EqualFunc(got, want, equal) {
		t.Error(got)
	}
	places, other := dep.Places(l), dep.Places(l)
	spoil(places)
	if !slices.Equal(other, dep.Places(l)) || other[0] != 0 {
		t.Error(other)
	}
}

func TestArguments(t *testing.T) { // P12.2, P0.4: items are neither changed nor kept, and what lies behind their length is not looked at
	l := shared(t)
	room := append(slices.Clone(l), items(t, "lw x9, 0(x1)", "sw x9, 0(x9)")...)
	before := slices.Clone(room)
	want, places := dep.Ops(l), dep.Places(l)
	got, at := dep.Ops(room[:len(l)]), dep.Places(room[:len(l)])
	if !slices.Equal(room, before) {
		t.Error("the items were changed")
	}
	for i := range room {
		room[i] = dep.Item{}
	}
	if !slices.EqualFunc(got, want, equal) || !slices.Equal(at, places) {
		t.Error(got, at)
	}
}
