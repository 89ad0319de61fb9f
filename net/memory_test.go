package net_test

import (
	"slices"
	"testing"

	"corral/api"
	"corral/net"
)

func TestAnew(t *testing.T) { // P16.3, P0.4: whatever is written into a list, or appended to it, no other one shows it, nor the net
	n, m := mixed(t)
	want := n.All()
	for range 3 {
		a, b := n.All(), n.All()
		whole := a[:cap(a)]
		for i := range whole {
			whole[i] = net.Flight{ID: 99, Msg: up(api.Put, 7, 99)}
		}
		if !slices.Equal(b, want) {
			t.Error("another list shows it")
		}
		check(t, n, m)
		_ = append(b, net.Flight{ID: 77})
		spare := slices.Clone(b[:cap(b)])
		sent(t, n, m, up(api.GetS, 0, 5))
		if !slices.Equal(b[:cap(b)], spare) {
			t.Error("what is sent comes into a list that was told")
		}
		check(t, n, m)
		taken(t, n, m, len(m.sent)-1)
	}
	// What was told stays, whatever becomes of the net.
	for _, f := range want {
		taken(t, n, m, f.ID)
	}
	sent(t, n, m, up(api.Put, 1, 6), down(api.Inv, 1, 6), up(api.Back, 1, 6))
	if got := ids(want); !slices.Equal(got, []int{1, 2, 3, 5, 6, 7, 9, 10, 11}) || want[0].Msg.Line != 0 || want[8].Msg.Line != 3 {
		t.Error(want)
	}
	check(t, n, m)
}

func TestArguments(t *testing.T) { // P0.4: what is handed in is neither changed nor kept, and what lies behind its length is not looked at
	n, m := made(t, 2, 4)
	good := []api.Msg{up(api.GetS, 0, 1), down(api.Data, 1, 2), up(api.Done, 1, 3)}
	room := append(slices.Clone(good), up(99, 9, -9), up(api.GetS, 0, 7))
	before := slices.Clone(room)
	sent(t, n, m, room[:3]...)
	check(t, n, m)
	if err := n.Send(room...); !same(err, at(3, api.ErrKind)) {
		t.Error(err)
	}
	if !slices.Equal(room, before) {
		t.Error("what was handed in is", room)
	}
	clear(room)
	check(t, n, m)
	for f := range n.Each(0) {
		f.Msg.Line = 99
	}
	x, _ := n.Head(1)
	x.Data[0] = 99
	check(t, n, m)
}

func TestErrorsAnew(t *testing.T) { // P0.4, P0.5: an error that a caller writes into is no other call's
	n, _ := made(t, 1, 1)
	for range 2 {
		for _, x := range []api.Msg{up(0, 0, 0), up(api.GetS, 1, 0), up(api.GetS, 0, -1)} {
			where, is := n.Send(up(api.Put, 0, 0), x).(*api.At)
			if !is || where.Pos != 1 {
				t.Fatal(where)
			}
			where.Pos, where.Err = 77, nil
		}
	}
}

func TestApart(t *testing.T) { // P0.5: nets that stand side by side have nothing to do with each other
	a, x := made(t, 2, 2)
	b, y := made(t, 2, 2)
	sent(t, a, x, up(api.GetS, 0, 1), up(api.GetM, 0, 2))
	check(t, b, y)
	sent(t, b, y, down(api.Inv, 0, 3))
	taken(t, a, x, 0)
	check(t, a, x)
	check(t, b, y)
}
