package net_test

import (
	"slices"
	"testing"

	"corral/api"
	"corral/net"
)

func TestExample(t *testing.T) { // P16.2: the chapter's example
	n, m := made(t, 2, 1)
	if err := n.Send(up(api.GetS, 0, 0)); err != nil {
		t.Error(err)
	}
	if err := n.Send(up(api.GetS, 0, 0)); !same(err, at(0, api.ErrFull)) {
		t.Error(err)
	}
	m.send([]api.Msg{up(api.GetS, 0, 0)})
	check(t, n, m)
}

func TestNew(t *testing.T) { // P16.1: harts 1 to 4, room 1 to 64, and no others
	for harts := -2; harts < 8; harts++ {
		for room := -2; room < 140; room++ {
			is := harts >= 1 && harts <= 4 && room >= 1 && room <= 64
			n, err := net.New(harts, room)
			if is && (n == nil || err != nil) || !is && (n != nil || err != api.ErrRange) {
				t.Errorf("New(%d, %d) is %v, %v", harts, room, n, err)
			}
		}
	}
	for _, x := range wrongNumbers() {
		for _, y := range append(wrongNumbers(), 0, 1, 4, 64) {
			if n, err := net.New(x, y); n != nil || err != api.ErrRange {
				t.Errorf("New(%d, %d) is %v, %v", x, y, n, err)
			}
			if n, err := net.New(y, x); n != nil || err != api.ErrRange {
				t.Errorf("New(%d, %d) is %v, %v", y, x, n, err)
			}
		}
	}
}

func TestEmpty(t *testing.T) { // P16.1: nothing is on its way, all has room
	for harts := 1; harts <= 4; harts++ {
		for _, room := range []int{1, 2, 63, 64} {
			n, m := made(t, harts, room)
			check(t, n, m)
			sent(t, n, m)
			sent(t, n, m, []api.Msg{}...)
			check(t, n, m)
		}
	}
}

func TestClass(t *testing.T) { // P16.1
	want := map[int]int{api.GetS: 0, api.GetM: 0, api.Put: 0, api.Inv: 1, api.Share: 1, api.Take: 1, api.Data: 1, api.Grant: 1, api.PutAck: 1, api.Ack: 2, api.Back: 2, api.Done: 2}
	for kind, class := range want {
		if got := net.Class(kind); got != class {
			t.Errorf("Class(%d) is %d, not %d", kind, got, class)
		}
	}
	for _, kind := range append(wrongNumbers(), -1, 0, 13, 14, 15, 16, 64, -12, -7) {
		if got := net.Class(kind); got != -1 {
			t.Errorf("Class(%d) is %d", kind, got)
		}
	}
}

func TestLinks(t *testing.T) { // P16.1, P16.2: classes 0 and 2 go from a hart to the home, 1 from the home to a hart; nothing else is a link
	ends := append(wrongNumbers(), -1, 0, 1, 2, 3, 4, 5)
	for harts := 1; harts <= 4; harts++ {
		n, m := made(t, harts, 3)
		for _, from := range ends {
			for _, to := range ends {
				for _, class := range []int{-2, -1, 0, 1, 2, 3, 4, 1 << 32, 1<<32 + 1, -1 << 63} {
					if got, want := n.Room(from, to, class), m.left(from, to, class); got != want {
						t.Fatalf("%d harts: Room(%d, %d, %d) is %d, not %d", harts, from, to, class, got, want)
					}
				}
				for _, kind := range kinds() {
					n, m := made(t, harts, 3)
					sent(t, n, m, api.Msg{Kind: kind, From: from, To: to})
					if n.Len() != len(m.all()) {
						t.Fatalf("%d harts: %d from %d to %d: Len is %d", harts, kind, from, to, n.Len())
					}
				}
			}
		}
	}
	// In numbers.
	n, _ := made(t, 2, 5)
	for _, x := range [][4]int{{0, -1, 0, 5}, {1, -1, 0, 5}, {0, -1, 2, 5}, {1, -1, 2, 5}, {-1, 0, 1, 5}, {-1, 1, 1, 5}, {2, -1, 0, 0}, {-1, 2, 1, 0}, {0, -1, 1, 0}, {-1, 0, 0, 0}, {-1, 0, 2, 0}, {-1, -1, 0, 0}, {-1, -1, 1, 0}, {0, 1, 0, 0}, {1, 0, 1, 0}, {0, -1, 3, 0}, {0, -1, -1, 0}} {
		if got := n.Room(x[0], x[1], x[2]); got != x[3] {
			t.Errorf("Room(%d, %d, %d) is %d", x[0], x[1], x[2], got)
		}
	}
}

func TestSendTold(t *testing.T) { // P16.2: from the left, of each message kind, place and room
	const big = 1 << 40
	for i, x := range []struct {
		l    []api.Msg
		pos  int
		want error
	}{
		{[]api.Msg{up(0, 0, 0)}, 0, api.ErrKind},
		{[]api.Msg{up(13, 0, 0)}, 0, api.ErrKind},
		{[]api.Msg{up(-1, 0, 0)}, 0, api.ErrKind},
		{[]api.Msg{up(0, 9, -1)}, 0, api.ErrKind}, // ahead of its place
		{[]api.Msg{up(api.GetS, 2, 0)}, 0, api.ErrPlace},
		{[]api.Msg{up(api.GetS, home, 0)}, 0, api.ErrPlace},
		{[]api.Msg{down(api.Inv, 2, 0)}, 0, api.ErrPlace},
		{[]api.Msg{down(api.GetS, 0, 0)}, 0, api.ErrPlace},
		{[]api.Msg{down(api.Done, 0, 0)}, 0, api.ErrPlace},
		{[]api.Msg{up(api.Data, 0, 0)}, 0, api.ErrPlace},
		{[]api.Msg{{Kind: api.GetS, From: 0, To: 1}}, 0, api.ErrPlace},
		{[]api.Msg{up(api.GetS, 0, -1)}, 0, api.ErrPlace},
		{[]api.Msg{down(api.Data, 1, -big)}, 0, api.ErrPlace},
		{[]api.Msg{up(api.Ack, 1, -1)}, 0, api.ErrPlace}, // ahead of its room
		{[]api.Msg{up(api.Ack, 1, 0)}, 0, api.ErrFull},
		{[]api.Msg{up(api.Ack, 1, 0), up(0, 0, 0)}, 0, api.ErrFull}, // the first one's, whatever comes behind
		{[]api.Msg{up(api.GetS, 0, -1), up(0, 0, 0)}, 0, api.ErrPlace},
		{[]api.Msg{up(api.GetS, 0, 0), up(0, 0, 0)}, 1, api.ErrKind}, // behind good ones
		{[]api.Msg{up(api.GetS, 0, 0), up(api.GetS, 5, 0)}, 1, api.ErrPlace},
		{[]api.Msg{up(api.GetS, 0, 0), up(api.GetM, 0, big)}, 0, nil},
		{[]api.Msg{up(api.Put, 0, 0), up(api.Done, 1, 0)}, 1, api.ErrFull},
		{[]api.Msg{up(1, 0, 0), up(1, 0, 0), up(1, 0, 0)}, 2, api.ErrFull},      // with those ahead of it
		{[]api.Msg{up(1, 0, 0), up(1, 1, 0), up(1, 0, 0), up(1, 1, 0)}, 0, nil}, // each link has its own
		{[]api.Msg{up(1, 0, 0), up(10, 0, 0), down(4, 0, 0), up(2, 0, 0), up(11, 0, 0), down(5, 0, 0)}, 0, nil},
		{[]api.Msg{up(1, 0, 0), down(4, 0, 0), up(2, 0, 0), down(5, 0, 0), down(9, 0, 0)}, 4, api.ErrFull},
	} {
		n, m := made(t, 2, 2)
		sent(t, n, m, up(api.Ack, 1, 3), up(api.Back, 1, 4))
		want := x.want
		if want != nil {
			want = at(x.pos, want)
		}
		if err := n.Send(x.l...); !same(err, want) {
			t.Errorf("%d: %v", i, err)
		}
		if m.send(x.l); !slices.Equal(n.All(), m.all()) {
			t.Errorf("%d: %v", i, n.All())
		}
	}
}

func TestSendNothing(t *testing.T) { // P16.2, P0.2: of a list that can't all go nothing is sent, no room is taken, no number is used
	n, m := made(t, 3, 4)
	sent(t, n, m, up(api.GetS, 0, 1), down(api.Data, 2, 5), up(api.Done, 1, 2))
	good := []api.Msg{up(api.GetS, 0, 1), up(api.GetM, 1, 1), down(api.Inv, 2, 1), up(api.Ack, 1, 1)}
	bad := []api.Msg{{}, up(13, 0, 0), up(api.GetS, 3, 0), down(api.Grant, 0, -1), {Kind: api.Done, From: 1, To: 0}}
	for _, x := range bad {
		for k := range len(good) + 1 {
			sent(t, n, m, slices.Insert(slices.Clone(good), k, x)...)
			check(t, n, m)
		}
	}
	sent(t, n, m, slices.Repeat([]api.Msg{down(api.Share, 2, 0)}, 4)...)
	check(t, n, m)
	sent(t, n, m, good...)
	check(t, n, m)
	if got := ids(n.All()); !slices.Equal(got, []int{0, 1, 2, 3, 4, 5, 6}) {
		t.Error(got)
	}
}

func TestFull(t *testing.T) { // P16.1, P16.2: so many on each link, one by one and at once; what is taken makes room
	for _, room := range []int{1, 2, 7, 63, 64} {
		for _, kind := range kindsOf() {
			for hart := range 4 {
				n, m := made(t, 4, room)
				for line := range room + 2 {
					sent(t, n, m, send(kind, hart, line))
				}
				check(t, n, m)
				if n.Len() != room {
					t.Fatalf("room for %d, not %d", n.Len(), room)
				}
				taken(t, n, m, room/2)
				check(t, n, m)
				sent(t, n, m, send(kind, hart, 1), send(kind, hart, 2))
				sent(t, n, m, send(kind, hart, 1))
				sent(t, n, m, send(kind, hart, 2))
				check(t, n, m)
				n, m = made(t, 4, room)
				sent(t, n, m, slices.Repeat([]api.Msg{send(kind, hart, 3)}, room+1)...)
				check(t, n, m)
				sent(t, n, m, slices.Repeat([]api.Msg{send(kind, hart, 3)}, room)...)
				check(t, n, m)
			}
		}
	}
}

func TestAllFull(t *testing.T) { // P16.2: every link full, sent in one call, and taken from either end
	var l []api.Msg
	for line := range 64 {
		for hart := range 4 {
			for _, kind := range kindsOf() {
				l = append(l, whole(kind, hart, line))
			}
		}
	}
	for _, back := range []bool{false, true} {
		n, m := made(t, 4, 64)
		sent(t, n, m, l...)
		check(t, n, m)
		if n.Len() != 768 {
			t.Fatal(n.Len())
		}
		for _, x := range l[:12] {
			sent(t, n, m, x)
		}
		for i := range l {
			if back {
				i = len(l) - 1 - i
			}
			taken(t, n, m, i)
		}
		check(t, n, m)
		sent(t, n, m, l...)
		check(t, n, m)
	}
}

func TestClassesApart(t *testing.T) { // P16.1: all kinds of a class share a link, and no other does
	for _, a := range kinds() {
		for _, b := range kinds() {
			for hart := range 2 {
				n, m := made(t, 2, 1)
				sent(t, n, m, send(a, 0, 0))
				want := error(nil)
				if classOf(a) == classOf(b) && hart == 0 {
					want = at(0, api.ErrFull)
				}
				if err := n.Send(send(b, hart, 1)); !same(err, want) {
					t.Errorf("%d, then %d of hart %d: %v", a, b, hart, err)
				}
			}
		}
	}
}

func TestNumbers(t *testing.T) { // P16.2: from 0 on, one more each, and none a second time
	n, _ := made(t, 1, 2)
	for id := range 1000 {
		if err := n.Send(up(api.GetS, 0, id)); err != nil {
			t.Fatal(err)
		}
		if got := ids(n.All()); !slices.Equal(got, []int{id}) {
			t.Fatal(id, got)
		}
		if m, is := n.Head(id - 1); m != (api.Msg{}) || is {
			t.Fatal(id, m, is)
		}
		if m, is := n.Take(id); m != up(api.GetS, 0, id) || !is || n.Len() != 0 {
			t.Fatal(id, m, is)
		}
	}
}

func TestWhole(t *testing.T) { // P16.2: a message comes as it was sent, all of it
	for line := range 8 {
		for _, kind := range kinds() {
			n, m := made(t, 3, 2)
			x := whole(kind, line%3, line)
			y := whole(kind, 2-line%3, 1<<62+line)
			sent(t, n, m, x, y)
			check(t, n, m)
			taken(t, n, m, 0)
			taken(t, n, m, 1)
			check(t, n, m)
		}
	}
}

func TestNotThere(t *testing.T) { // P16.2, P0.7: of a number that is not on its way nothing, and nothing changes
	n, m := made(t, 2, 8)
	sent(t, n, m, up(api.GetS, 0, 1), down(api.Data, 1, 2), up(api.Ack, 1, 3))
	taken(t, n, m, 1)
	for _, id := range append(wrongNumbers(), -1, 1, 3, 4, 64) {
		if x, is := n.Head(id); x != (api.Msg{}) || is {
			t.Errorf("Head(%d) is %v %v", id, x, is)
		}
		if x, is := n.Take(id); x != (api.Msg{}) || is {
			t.Errorf("Take(%d) is %v %v", id, x, is)
		}
		check(t, n, m)
	}
	for range 3 {
		if x, is := n.Head(2); x != up(api.Ack, 1, 3) || !is {
			t.Errorf("Head takes: %v %v", x, is)
		}
	}
	check(t, n, m)
}

func TestAnyOrder(t *testing.T) { // P16.2, P16.4: taken in every order there is, on one link and on several
	for _, spread := range []bool{false, true} {
		var l []api.Msg
		for i := range 5 {
			x := whole(api.GetM, 0, i)
			if spread {
				x = whole(kindsOf()[i%3], i%2, i)
			}
			l = append(l, x)
		}
		orders(nil, 5, func(order []int) {
			n, m := made(t, 2, 5)
			sent(t, n, m, l...)
			for _, id := range order {
				taken(t, n, m, id)
				taken(t, n, m, id)
				check(t, n, m)
			}
		})
	}
}

// orders goes through all orders of 0 to n - 1 that begin so.
func orders(order []int, n int, each func([]int)) {
	if len(order) == n {
		each(order)
		return
	}
	for i := range n {
		if !slices.Contains(order, i) {
			orders(append(order, i), n, each)
		}
	}
}
