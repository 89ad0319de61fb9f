package lone_test

import (
	"slices"
	"testing"

	"corral/api"
	"corral/home"
	"corral/lone"
)

// pair is a line and its model, behind the same doings.
type pair struct {
	l *lone.Line
	m model
}

func TestAllStates(t *testing.T) { // P19.1, P19.2, P19.3: every doing in every state that doings bring about, however it was come to
	seen := map[model]bool{fresh(): true}
	for todo := []pair{{lone.New(line, hart), fresh()}}; len(todo) > 0; todo = todo[1:] {
		for _, what := range doings() {
			for _, d := range []api.Line{{}, first(), {0, 0, 0, 1}} {
				l := todo[0].l.Clone()
				m := did(t, l, todo[0].m, doing{what, d})
				if !seen[m] {
					seen[m] = true
					todo = append(todo, pair{l, m})
				}
			}
		}
	}
	if len(seen) != 3*10+4 {
		t.Errorf("%d states", len(seen))
	}
}

// dice is numbers without a pattern, the same in each run.
type dice uint32

func (d *dice) next(n int) int {
	*d = *d*1664525 + 1013904223
	return int(*d>>8) % n
}

func TestLongRuns(t *testing.T) { // P19.1, P19.2, P19.3: doings in many orders, wrong messages among them, and clones of a line in its place
	d := dice(19)
	for range 60 {
		l, m := lone.New(line, hart), fresh()
		count := 0
		for range 600 {
			x := doing{doings()[d.next(len(doings()))], api.Line{uint32(d.next(100)), 0, 0, uint32(d.next(100))}}
			if _, _, is, _ := m.does(x); is {
				count++
			}
			m = did(t, l, m, x)
			if wrong, of := x.message(); of {
				refuses(t, l, spoilt(&d, wrong))
			}
			if d.next(10) == 0 {
				l = l.Clone()
			}
		}
		if count < 150 {
			t.Errorf("only %d were done", count)
		}
	}
}

// spoilt is a message of which one field is another one.
func spoilt(d *dice, m api.Msg) api.Msg {
	switch d.next(4) {
	case 0:
		m.Kind = []int{-1, 0, api.GetS, api.GetM, api.Put, api.Ack, api.Back, api.Done, api.Done + 1}[d.next(9)]
	case 1:
		m.From = d.next(9)
	case 2:
		m.To = d.next(hart) - 3
	case 3:
		m.Line += d.next(3)*5 + 1
	}
	return m
}

// herd is one line in some harts' caches, its home, and the messages between them.
type herd struct {
	home  *home.Home
	lines []*lone.Line
	way   []api.Msg
	last  api.Line // what was written last
}

func newHerd(harts int) *herd {
	h := &herd{home: home.New(line, harts, first()), last: first()}
	for i := range harts {
		h.lines = append(h.lines, lone.New(line, i))
	}
	return h
}

// deliver hands over the i-th message on its way, if it is taken now.
func (h *herd) deliver(i int) bool {
	m := h.way[i]
	var sent []api.Msg
	if m.To < 0 {
		if !h.home.Takes(m) {
			return false
		}
		sent = h.home.Take(m)
	} else {
		if !h.lines[m.To].Takes(m) {
			return false
		}
		sent, _ = h.lines[m.To].Take(m)
	}
	h.way = append(slices.Delete(h.way, i, i+1), sent...)
	return true
}

// holds checks that copies are equal, are what was written last, and that none is alone beside another one.
func (h *herd) holds(t *testing.T) {
	t.Helper()
	copies, alones, owners := 0, 0, 0
	for _, l := range h.lines {
		d, is := l.Data()
		if !is {
			continue
		}
		copies++
		if d != h.last {
			t.Fatalf("a copy is %v, what was written is %v", d, h.last)
		}
		if l.State() == api.Exclusive || l.State() == api.Modified {
			alones++
		}
		if l.State() == api.Owned {
			owners++
		}
	}
	if alones > 1 || owners > 1 || alones == 1 && copies > 1 {
		t.Fatalf("%d copies, %d of them alone, %d owned", copies, alones, owners)
	}
}

// act lets a hart read, write or evict, as a cache would.
func (h *herd) act(d *dice, i int) {
	l := h.lines[i]
	switch d.next(5) {
	case 0:
		sent, _ := l.Evict()
		h.way = append(h.way, sent...)
	case 1, 2:
		sent, _ := l.Ask(false)
		h.way = append(h.way, sent...)
	default:
		sent, _ := l.Ask(true)
		h.way = append(h.way, sent...)
		v := api.Line{uint32(d.next(1 << 20)), uint32(i)}
		if l.Set(v) {
			h.last = v
		}
	}
}

// settle hands over what is on its way, in whatever order, till there is nothing more.
func (h *herd) settle(t *testing.T, d *dice) {
	t.Helper()
	for len(h.way) > 0 {
		at := d.next(len(h.way))
		for i := range h.way {
			if j := (at + i) % len(h.way); h.deliver(j) {
				at = -1
				break
			}
		}
		if at >= 0 {
			t.Fatalf("none of %v is taken", h.way)
		}
		h.holds(t)
	}
}

func TestWithHome(t *testing.T) { // P19.2: what a home asks and answers is taken, in whatever order it comes, and nothing that was written is lost
	d := dice(7)
	for run := range 240 {
		h := newHerd(1 + run%4)
		for range 300 {
			if len(h.way) > 0 && d.next(3) > 0 {
				h.deliver(d.next(len(h.way)))
			} else {
				h.act(&d, d.next(len(h.lines)))
			}
			h.holds(t)
		}
		h.settle(t, &d)
		for _, l := range h.lines {
			if l.Waits() != 0 {
				t.Fatalf("one waits for %d, and nothing is on its way", l.Waits())
			}
			sent, _ := l.Evict()
			h.way = append(h.way, sent...)
			h.settle(t, &d)
		}
		if h.home.Busy() || h.home.Owner() != -1 || h.home.Data() != h.last {
			t.Fatalf("the home has %v, what was written is %v", h.home.Data(), h.last)
		}
	}
}
