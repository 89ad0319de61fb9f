package home_test

import (
	"maps"
	"slices"
	"strconv"
	"testing"

	"corral/api"
	"corral/home"
)

// all is every message that a home may be sent by so many harts, with data of a few sorts where they count.
func all(harts int) []api.Msg {
	var l []api.Msg
	for hart := range harts {
		l = append(l, up(api.GetS, hart), up(api.GetM, hart), up(api.Ack, hart), up(api.Done, hart))
		for _, kind := range []int{api.Put, api.Back} {
			for _, d := range []api.Line{{}, {0, 9}} {
				m := up(kind, hart)
				m.Data = d
				l = append(l, m, with(m, d), dirty(m), dirty(with(m, d)))
			}
		}
	}
	return l
}

// key tells one state of a model from every other one.
func key(m *model) string {
	s := strconv.Itoa(m.was.owner)
	for _, w := range m.was.data {
		s += " " + strconv.Itoa(int(w))
	}
	for _, hart := range slices.Sorted(maps.Keys(m.was.sharers)) {
		s += " s" + strconv.Itoa(hart)
	}
	for _, x := range m.since {
		s += " " + strconv.Itoa(x.Kind) + "," + strconv.Itoa(x.From)
		if x.Has {
			s += "h"
		}
		if x.Dirty {
			s += "d"
		}
		s += strconv.Itoa(int(x.Data[1]))
	}
	return s
}

// pair is a home and its model, behind the same messages.
type pair struct {
	h *home.Home
	m *model
}

func TestAllStates(t *testing.T) { // P18.1, P18.2: every message in every state that three harts bring about
	for harts := 1; harts <= 3; harts++ {
		h, m := made(t, harts)
		seen := map[string]bool{key(m): true}
		l := all(harts)
		for todo := []pair{{h, m}}; len(todo) > 0; todo = todo[1:] {
			for _, x := range l {
				c, n := todo[0].h.Clone(), todo[0].m.clone()
				is := n.takes(x)
				if c.Takes(x) != is {
					t.Fatalf("Takes(%v) is %v, at %s", x, !is, key(n))
				}
				want := n.take(x)
				if got := c.Take(x); !slices.Equal(got, want) {
					t.Fatalf("Take(%v) is %v, not %v, at %s", x, got, want, key(todo[0].m))
				}
				knows(t, c, n)
				if !seen[key(n)] {
					seen[key(n)] = true
					todo = append(todo, pair{c, n})
				}
			}
			check(t, todo[0].h, todo[0].m)
		}
		if want := []int{0, 18, 180, 1500}[harts]; len(seen) < want {
			t.Errorf("%d harts: only %d states", harts, len(seen))
		}
	}
}

// dice is numbers without a pattern, the same in each run.
type dice uint32

func (d *dice) next(n int) int {
	*d = *d*1664525 + 1013904223
	return int(*d>>8) % n
}

// message is one of any kind, mostly one that is waited for, now and then a wrong one.
func (d *dice) message(m *model) api.Msg {
	harts := m.harts
	x := up([]int{api.GetS, api.GetS, api.GetM, api.Put, api.Ack, api.Back, api.Done}[d.next(7)], d.next(harts))
	if m.busy() && d.next(4) > 0 {
		x = up(api.Done, m.since[0].From)
		if l := slices.Sorted(maps.Keys(m.left())); len(l) > 0 {
			x.From = l[d.next(len(l))]
			x.Kind = m.left()[x.From]
		}
	}
	x.Data = api.Line{uint32(d.next(100)), 0, 0, uint32(d.next(100))}
	x.Has, x.Dirty, x.Alone = d.next(4) > 0, d.next(2) > 0, d.next(2) > 0
	switch d.next(60) {
	case 0:
		x.Kind = d.next(16) - 1
	case 1:
		x.From = d.next(harts+4) - 2
	case 2:
		x.To = d.next(harts+3) - 2
	case 3:
		x.Line += d.next(3) - 1
	}
	return x
}

func TestLongRuns(t *testing.T) { // P18.1, P18.2: messages in many orders, wrong ones among them, and clones of a home in its place
	d := dice(5)
	for run := range 120 {
		harts := 1 + run%6
		h, m := made(t, harts)
		count := 0
		for range 400 {
			x := d.message(m)
			if m.takes(x) {
				count++
			}
			took(t, h, m, x)
			if d.next(10) == 0 {
				h = h.Clone()
			}
		}
		if count < 200 {
			t.Errorf("%d harts: only %d were taken", harts, count)
		}
	}
}
