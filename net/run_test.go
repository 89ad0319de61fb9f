package net_test

import (
	"slices"
	"testing"

	"corral/api"
	"corral/net"
)

// dice is numbers without a pattern, the same in each run.
type dice uint32

func (d *dice) next(n int) int {
	*d = *d*1664525 + 1013904223
	return int(*d>>8) % n
}

// message is one of any kind and link, now and then a wrong one; its line is its own.
func (d *dice) message(harts, line int) api.Msg {
	x := whole(kinds()[d.next(12)], d.next(harts), line)
	switch d.next(40) {
	case 0:
		x.Kind = d.next(16) - 1
	case 1:
		x.From = d.next(7) - 2
	case 2:
		x.To = d.next(7) - 2
	case 3:
		x.Line = -x.Line - 1
	}
	return x
}

func TestLongRuns(t *testing.T) { // P16.1, P16.2: calls in many orders, wrong ones among them
	d := dice(1)
	for run := range 60 {
		harts, room := 1+run%4, []int{1, 2, 3, 6, 64}[run%5]
		n, m := made(t, harts, room)
		for step := range 150 {
			switch d.next(5) {
			case 0, 1:
				var l []api.Msg
				for i := range d.next(6) {
					l = append(l, d.message(harts, 10*step+i))
				}
				sent(t, n, m, l...)
			case 2:
				taken(t, n, m, d.next(len(m.sent)+3)-1)
			default:
				if l := m.all(); len(l) > 0 {
					taken(t, n, m, l[d.next(len(l))].ID)
				}
			}
			check(t, n, m)
		}
	}
}

func TestNothingLost(t *testing.T) { // P16.4: all that was sent comes, once, and nothing else does
	d := dice(7)
	for _, room := range []int{1, 2, 5, 64} {
		n, _ := made(t, 4, room)
		var want, got []api.Msg
		take := func(l []net.Flight) {
			id := l[d.next(len(l))].ID
			x, is := n.Take(id)
			if _, again := n.Take(id); !is || again {
				t.Fatal(id, is, again)
			}
			got = append(got, x)
		}
		for line := range 5000 {
			x := d.message(4, line)
			if n.Send(x) == nil {
				want = append(want, x)
			}
			if d.next(3) == 0 && n.Len() > 0 {
				take(n.All())
			}
			if len(got)+n.Len() != len(want) {
				t.Fatalf("%d came and %d are on their way, of %d", len(got), n.Len(), len(want))
			}
		}
		for n.Len() > 0 {
			take(n.All())
		}
		// Each has a line of its own, so that they can be told apart.
		slices.SortFunc(got, func(a, b api.Msg) int { return a.Line - b.Line })
		if !slices.Equal(got, want) {
			t.Errorf("room for %d: %d came, of %d", room, len(got), len(want))
		}
	}
}
