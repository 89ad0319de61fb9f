package fabric_test

import (
	"fmt"
	"slices"
	"strings"
	"testing"

	"corral/api"
	"corral/fabric"
	"corral/mem"
	"corral/net"
)

// dice is numbers without a pattern, the same in each run.
type dice uint32

func (d *dice) next(n int) int {
	*d = *d*1664525 + 1013904223
	return int(*d>>8) % n
}

// one tells whether a throw of one in n came up.
func (d *dice) one(n int) bool { return d.next(n) == 0 }

// coherent holds a line, as its view has it, against what has to be in every state.
func coherent(t *testing.T, f *fabric.Fabric, line int) {
	t.Helper()
	v, _ := f.View(line)
	copies, alone, owned, changed := 0, 0, 0, 0
	var data api.Line
	for h, state := range v.State {
		if state == api.Invalid {
			continue
		}
		if copies > 0 && v.Data[h] != data {
			t.Fatal("copies are unlike", v)
		}
		copies, data = copies+1, v.Data[h]
		switch state {
		case api.Exclusive:
			alone++
		case api.Modified:
			alone++
			changed++
		case api.Owned:
			owned++
			changed++
		}
	}
	if alone > 1 || alone == 1 && copies > 1 || owned > 1 {
		t.Fatal("more have it than may", v)
	}
	if copies > 0 && changed == 0 && !v.Puts && !v.Busy && v.Memory != data {
		t.Fatal("memory is not as they are", v)
	}
}

// goesOn holds that one of the messages that are on their way can be delivered.
func goesOn(t *testing.T, m *model) {
	t.Helper()
	if len(m.way) > 0 && !slices.ContainsFunc(m.way, func(x net.Flight) bool { return m.clone().Deliver(x.ID) }) {
		t.Fatal("none can come of", m.way)
	}
}

// key tells one state of a model from every other one, but for numbers and times.
func key(m *model) string {
	var b strings.Builder
	for line, at := range m.homes {
		fmt.Fprint(&b, at.Busy(), at.Owner(), at.Sharers(), at.Data()[0], "/")
		for h, side := range m.lines {
			d, _ := side[line].Data()
			// What it keeps for Put it tells only if it is asked.
			sent, _ := side[line].Clone().Take(api.Msg{Kind: api.Share, Line: line, From: -1, To: h})
			fmt.Fprint(&b, side[line].State(), side[line].Waits(), d[0], sent[0].Has, sent[0].Dirty, sent[0].Data[0], " ")
		}
		w, _ := m.last.Line(line)
		fmt.Fprint(&b, w[0], ";")
	}
	var l []string
	for _, x := range m.way {
		l = append(l, fmt.Sprint(x.Msg.Kind, x.Msg.Line, x.Msg.From, x.Msg.To, x.Msg.Data[0], x.Msg.Has, x.Msg.Dirty, x.Msg.Alone))
	}
	slices.Sort(l)
	fmt.Fprint(&b, l)
	return b.String()
}

// node is a state, and how it is come to.
type node struct {
	m    *model
	path []doing
}

// again is a fabric that is come to by a path, and its model.
func again(t *testing.T, c fabric.Config, lines int, path []doing) (*fabric.Fabric, *model) {
	t.Helper()
	f, m := made(t, c, lines)
	for _, d := range path {
		did(t, f, m, d)
	}
	return f, m
}

// doings is all that may be done in a state: each line is asked for, and written, by each hart, each message is delivered.
func doings(m *model) []doing {
	var l []doing
	for line := range m.homes {
		for h := range m.c.Harts {
			w, _ := m.last.Load(uint32(line*api.LineBytes), 4)
			l = append(l, doing{what: ask, h: h, line: line}, doing{what: ask, h: h, line: line, writes: true},
				doing{what: write, h: h, addr: uint32(line * api.LineBytes), size: 4, v: (w + 1) % 3})
		}
	}
	for _, x := range m.way {
		l = append(l, doing{what: deliver, line: x.ID})
	}
	return l
}

// reads holds each word of each hart against what was written last.
func reads(t *testing.T, f *fabric.Fabric, m *model) {
	t.Helper()
	for h := range m.c.Harts {
		for addr := uint32(0); int(addr) < m.last.Bytes(); addr += 4 {
			did(t, f, m, doing{what: read, h: h, addr: addr, size: 4})
		}
	}
}

// explore goes to the states that there are, at most so many, and tries all in each.
func explore(t *testing.T, c fabric.Config, lines, most int) int {
	t.Helper()
	_, m := made(t, c, lines)
	seen := map[string]bool{key(m): true}
	for todo := []node{{m: m}}; len(todo) > 0; todo = todo[1:] {
		path := slices.Clip(todo[0].path)
		f, m := again(t, c, lines, path)
		check(t, f, m)
		goesOn(t, m)
		for line := range lines {
			coherent(t, f, line)
		}
		for _, d := range doings(m) {
			n := m.clone()
			if !d.of(n).is {
				did(t, f, m, d) // nothing comes of it
			} else if k := key(n); !seen[k] && len(seen) < most {
				seen[k] = true
				todo = append(todo, node{n, append(path, d)})
			}
		}
		check(t, f, m)
		reads(t, f, m)
		did(t, f, m, doing{what: settle})
		check(t, f, m)
		reads(t, f, m)
	}
	return len(seen)
}

func TestAllStates(t *testing.T) { // P20.2, P20.3, P20.4, P20.6: what may be done in all states that two harts bring about over a line, and in many of more
	for _, x := range []struct {
		harts, lines, most, least int
	}{{1, 1, 1 << 20, 13}, {1, 2, 1 << 20, 2000}, {2, 1, 1 << 20, 300}, {2, 2, 3000, 3000}, {3, 1, 1 << 20, 5000}, {3, 2, 2000, 2000}} {
		n := explore(t, small(x.harts, 1), x.lines, x.most)
		if n < x.least {
			t.Errorf("only %d states of %d harts and %d lines", n, x.harts, x.lines)
		}
	}
}

// habit is how a run goes: how often something comes, and what rather not.
type habit struct {
	c      fabric.Config
	lines  int
	comes  int // out of 10 doings
	averse int // the class that is seldom delivered; -1: none
}

// likes is the messages on their way that come: now and then those that come seldom, too.
func (p habit) likes(d *dice, m *model) []net.Flight {
	if d.one(40) {
		return m.way
	}
	return slices.DeleteFunc(slices.Clone(m.way), func(x net.Flight) bool { return net.Class(x.Msg.Kind) == p.averse })
}

// some is a doing of any kind, wrong ones now and then.
func (p habit) some(d *dice, m *model) doing {
	h, line := d.next(p.c.Harts), d.next(p.lines)
	if d.one(50) {
		h = none()[d.next(len(none()))]
	}
	if d.one(50) {
		line = none()[d.next(len(none()))]
	}
	if l := p.likes(d, m); len(l) > 0 && d.next(10) < p.comes {
		return doing{what: deliver, line: l[d.next(len(l))].ID}
	}
	addr, size := uint32(d.next(p.lines*api.LineBytes)), 1<<d.next(3)
	if !d.one(20) {
		addr -= addr % uint32(size)
	}
	switch d.next(12) {
	case 0, 1, 2, 3, 4:
		return doing{what: ask, h: h, line: line, writes: d.one(2)}
	case 5, 6:
		return doing{what: read, h: h, addr: addr, size: size}
	case 7, 8:
		return doing{what: write, h: h, addr: addr, size: size, v: uint32(d.next(1 << 24))}
	case 9:
		return doing{what: lost, h: h}
	case 10:
		return doing{what: deliver, line: d.next(m.next+2) - 1}
	}
	if d.one(40) {
		return doing{what: settle}
	}
	return doing{what: read, h: h, addr: addr, size: 4}
}

// habits is runs of many sorts.
func habits() []habit {
	var l []habit
	for harts := 1; harts <= 4; harts++ {
		for _, x := range []struct{ sets, ways, lines int }{{1, 1, 3}, {1, 2, 4}, {2, 1, 5}, {2, 2, 9}, {64, 8, 30 * harts}} {
			for _, averse := range []int{-1, 0, 1, 2} {
				for _, comes := range []int{4, 7} {
					c := fabric.Config{Harts: harts, Sets: x.sets, Ways: x.ways, Room: 6 * harts}
					if comes == 7 && averse < 0 {
						c.Room = api.MaxQueue
					}
					l = append(l, habit{c, x.lines, comes, averse})
				}
			}
		}
	}
	return l
}

func TestLongRuns(t *testing.T) { // P20.2, P20.3, P20.4, P20.6: doings in many orders, wrong ones among them, held against the long way
	d := dice(20)
	counts := map[string]int{}
	for _, p := range habits() {
		f, m := made(t, p.c, p.lines, 1, 2, 3, 4, 5, 6, 7, 8)
		for step := range 500 {
			x := p.some(&d, m)
			full := x.what == deliver && isFull(m, x.line)
			if a := did(t, f, m, x); a.is || len(a.list) > 0 {
				counts[fmt.Sprint(x.what)]++
			}
			if full {
				counts["full"]++
			}
			if step%5 == 0 {
				check(t, f, m)
				goesOn(t, m)
				for line := range p.lines {
					coherent(t, f, line)
				}
			}
		}
		if !did(t, f, m, doing{what: settle}).is {
			t.Error("not all has come")
		}
		check(t, f, m)
		reads(t, f, m)
		for h := range p.c.Harts {
			did(t, f, m, doing{what: lost, h: h})
		}
	}
	for _, what := range []string{"0", "1", "2", "3", "4", "5", "full"} {
		if counts[what] < 80 {
			t.Errorf("too little was done: %v", counts)
		}
	}
}

// isFull tells whether the message is one that is only not delivered for want of room.
func isFull(m *model, id int) bool {
	i := m.at(id)
	return i >= 0 && m.way[i].Msg.To >= 0 && !m.clone().Deliver(id)
}

// ends is the message that a doing delivers, if it answers what a hart asked, and whether that was to write.
func ends(m *model, x doing) (msg api.Msg, is, writes bool) {
	i := m.at(x.line)
	if x.what != deliver || i < 0 {
		return msg, false, false
	}
	msg = m.way[i].Msg
	if msg.Kind != api.Data && msg.Kind != api.Grant {
		return msg, false, false
	}
	return msg, true, m.lines[msg.To][msg.Line].Waits() == api.GetM
}

func TestAnswered(t *testing.T) { // P20.6: who asks, and is answered, can read, or write, till the next message comes, whatever else is asked
	d := dice(6)
	answered, writers := 0, 0
	for _, p := range habits() {
		f, m := made(t, p.c, p.lines)
		for range 300 {
			x := p.some(&d, m)
			msg, is, writes := ends(m, x)
			if !did(t, f, m, x).is || !is {
				continue
			}
			for other := range p.c.Harts {
				if other != msg.To {
					did(t, f, m, doing{what: ask, h: other, line: msg.Line, writes: true})
				}
			}
			addr := uint32(msg.Line * api.LineBytes)
			if a := did(t, f, m, doing{what: read, h: msg.To, addr: addr, size: 4}); !a.is {
				t.Fatal("it was answered, and can't read")
			}
			answered++
			a := did(t, f, m, doing{what: write, h: msg.To, addr: addr, size: 1, v: 3})
			if writes && !a.is {
				t.Fatal("it was answered, and can't write")
			}
			if writes {
				writers++
			}
		}
	}
	if answered < 1000 || writers < 500 {
		t.Errorf("only %d were answered, %d of them to write", answered, writers)
	}
}

func TestLastWrite(t *testing.T) { // P20.6: bytes that harts write in turn, as soon as they can, are read by all as they were written last
	d := dice(11)
	f, m := made(t, small(4, 2), 5)
	want := make([]byte, 5*api.LineBytes)
	writes, hits := 0, 0
	for range 60000 {
		h, addr := d.next(4), uint32(d.next(len(want)))
		line := mem.LineOf(addr)
		switch d.next(6) {
		case 0:
			f.Ask(h, line, d.one(2))
		case 1:
			v := uint32(d.next(256))
			if f.Write(h, addr, 1, v) {
				want[addr] = byte(v)
				writes++
			}
		case 2:
			if v, is := f.Read(h, addr, 1); is && v != uint32(want[addr]) {
				t.Fatalf("%d was read, not %d", v, want[addr])
			} else if is {
				hits++
			}
		default:
			if l := f.Flights(); len(l) > 0 {
				f.Deliver(l[d.next(len(l))].ID)
			}
		}
	}
	for addr, x := range want {
		if v, _ := f.Final().Load(uint32(addr), 1); v != uint32(x) {
			t.Errorf("Final has %d, not %d", v, x)
		}
	}
	if writes < 500 || hits < 500 || m.next > 0 {
		t.Errorf("only %d writes, %d reads", writes, hits)
	}
}
