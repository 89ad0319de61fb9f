package ppo_test

import (
	"reflect"
	"slices"
	"testing"

	"corral/api"
	"corral/ppo"
)

// dense is operations of which each has many behind it, and there are pairs.
func dense() []api.Op {
	return list(read(0, paired), read(0), write(0, paired), both(0, aq), barrier(3, 3), read(8, paired, addr(0, 1)), write(8, paired, rl), write(0), read(0), write(0), write(0))
}

// spoil writes into a list, and into its spare room.
func spoil(l []int) {
	room := l[:cap(l)]
	for i := range room {
		room[i] = -7
	}
	_ = append(l, -8)
}

func TestNewMemory(t *testing.T) { // P13.3: whatever is written into one list, no other shows it
	l := dense()
	want := ppo.Of(l)
	for n := range l {
		got, other := ppo.Of(l), ppo.Of(l)
		spoil(got[n])
		got[n] = want[n]
		if !lists(got, want) || !lists(other, want) || !lists(ppo.Of(l), want) {
			t.Error("behind list", n, got, other)
		}
	}
}

func TestNewLists(t *testing.T) { // P13.3: the list of lists, and that of pairs
	l := dense()
	first, want := ppo.Of(l), ppo.Of(l)
	room := first[:cap(first)]
	for i := range room {
		room[i] = []int{-1}
	}
	if !lists(ppo.Of(l), want) {
		t.Error(ppo.Of(l))
	}
	one, other := ppo.Pairs(l), ppo.Pairs(l)
	spoil(one)
	pairs(t, l, other...)
	if !slices.Equal(other, []int{-1, -1, 0, -1, -1, -1, 5, -1, -1, -1, -1}) {
		t.Error(other)
	}
}

func TestArguments(t *testing.T) { // P13.3, P0.4: operations are neither changed nor kept, and what lies behind their length is not looked at
	l := dense()
	more := append(copied(l), write(0, aq, rl, addr(0), data(0)), write(8, paired))
	for n := range more {
		// Behind the length of each list lies what would have to stay in order.
		more[n].AddrDeps = append(more[n].AddrDeps, 0, 1, 2)[:len(more[n].AddrDeps)]
		more[n].DataDeps = append(more[n].DataDeps, 0, 1, 2)[:len(more[n].DataDeps)]
		more[n].Ctrl = append(more[n].Ctrl, 0, 1, 2)[:len(more[n].Ctrl)]
	}
	before := copied(more)
	want, p := ppo.Of(l), ppo.Pairs(l)
	got, q := ppo.Of(more[:len(l)]), ppo.Pairs(more[:len(l)])
	rule := ppo.Why(more[:len(l)], 3, 5)
	if !reflect.DeepEqual(copied(more), before) {
		t.Error("the operations were changed")
	}
	for n := range more {
		spoil(more[n].AddrDeps)
		more[n] = api.Op{}
	}
	if !lists(got, want) || !slices.Equal(q, p) || rule != 4 || ppo.Why(l, 0, len(l)) != 0 {
		t.Error(got, q, rule)
	}
}
