package net_test

import (
	"math"
	"slices"
	"testing"

	"corral/api"
	"corral/net"
)

const home = -1

// up is a message from a hart to the home, down one from the home to a hart.
func up(kind, hart, line int) api.Msg {
	return api.Msg{Kind: kind, Line: line, From: hart, To: home}
}

func down(kind, hart, line int) api.Msg {
	return api.Msg{Kind: kind, Line: line, From: home, To: hart}
}

// send is a message of that kind on the link of its class with that hart.
func send(kind, hart, line int) api.Msg {
	if classOf(kind) == 1 {
		return down(kind, hart, line)
	}
	return up(kind, hart, line)
}

// whole is a message with something in all that it has.
func whole(kind, hart, line int) api.Msg {
	m := send(kind, hart, line)
	m.Data = api.Line{uint32(line), ^uint32(line), 0x80000001, 7}
	m.Has, m.Dirty, m.Alone = line&1 != 0, line&2 != 0, line&4 != 0
	return m
}

func kinds() []int {
	return []int{api.GetS, api.GetM, api.Put, api.Inv, api.Share, api.Take, api.Data, api.Grant, api.PutAck, api.Ack, api.Back, api.Done}
}

// kindsOf is a kind of each class.
func kindsOf() []int { return []int{api.GetM, api.Grant, api.Back} }

// wrongNumbers is numbers that are out of all ranges, and small ones but for bits far up.
func wrongNumbers() []int {
	l := []int{math.MinInt, math.MinInt + 1, math.MinInt32, -3, -2, math.MaxInt32, math.MaxInt - 1, math.MaxInt}
	for n := range 13 {
		l = append(l, n+1<<8, n+1<<16, n+1<<32, n-1<<32)
	}
	return l
}

// classOf is the class of a kind, as the chapter has it.
func classOf(kind int) int {
	switch {
	case kind >= 1 && kind <= 3:
		return 0
	case kind >= 4 && kind <= 9:
		return 1
	case kind >= 10 && kind <= 12:
		return 2
	}
	return -1
}

// model is a net by all that was ever sent.
type model struct {
	harts, room int
	sent        []api.Msg
	gone        []bool
}

func (m *model) isLink(from, to, class int) bool {
	for h := range m.harts {
		for _, l := range [][3]int{{h, home, 0}, {h, home, 2}, {home, h, 1}} {
			if l == [3]int{from, to, class} {
				return true
			}
		}
	}
	return false
}

func (m *model) left(from, to, class int) int {
	if !m.isLink(from, to, class) {
		return 0
	}
	n := m.room
	for i, x := range m.sent {
		if !m.gone[i] && x.From == from && x.To == to && classOf(x.Kind) == class {
			n--
		}
	}
	return n
}

func (m *model) send(l []api.Msg) error {
	before := len(m.sent)
	for i, x := range l {
		if err := m.why(x); err != nil {
			m.sent, m.gone = m.sent[:before], m.gone[:before]
			return at(i, err)
		}
		m.sent, m.gone = append(m.sent, x), append(m.gone, false)
	}
	return nil
}

func (m *model) why(x api.Msg) error {
	class := classOf(x.Kind)
	switch {
	case class < 0:
		return api.ErrKind
	case x.Line < 0 || !m.isLink(x.From, x.To, class):
		return api.ErrPlace
	case m.left(x.From, x.To, class) <= 0:
		return api.ErrFull
	}
	return nil
}

func (m *model) head(id int) (api.Msg, bool) {
	if id < 0 || id >= len(m.sent) || m.gone[id] {
		return api.Msg{}, false
	}
	return m.sent[id], true
}

func (m *model) take(id int) (api.Msg, bool) {
	x, is := m.head(id)
	if is {
		m.gone[id] = true
	}
	return x, is
}

func (m *model) all() []net.Flight {
	var l []net.Flight
	for id, x := range m.sent {
		if !m.gone[id] {
			l = append(l, net.Flight{ID: id, Msg: x})
		}
	}
	return l
}

// made is a net and its model.
func made(t *testing.T, harts, room int) (*net.Net, *model) {
	t.Helper()
	n, err := net.New(harts, room)
	if n == nil || err != nil {
		t.Fatalf("New(%d, %d) is %v, %v", harts, room, n, err)
	}
	return n, &model{harts: harts, room: room}
}

// sent puts messages on their way in both, and holds that the net says what the model does.
func sent(t *testing.T, n *net.Net, m *model, l ...api.Msg) {
	t.Helper()
	want := m.send(l)
	if err := n.Send(l...); !same(err, want) {
		t.Fatalf("Send(%v) is %v, not %v", l, err, want)
	}
}

// taken takes a message out of both, and holds that they say the same.
func taken(t *testing.T, n *net.Net, m *model, id int) {
	t.Helper()
	want, is := m.take(id)
	if got, there := n.Take(id); got != want || there != is {
		t.Fatalf("Take(%d) is %v %v, not %v %v", id, got, there, want, is)
	}
}

// check holds all that a net tells against the model.
func check(t *testing.T, n *net.Net, m *model) {
	t.Helper()
	all := m.all()
	if got := n.All(); !slices.Equal(got, all) {
		t.Fatalf("All is %v, not %v", got, all)
	}
	if n.Len() != len(all) {
		t.Fatalf("Len is %d, not %d", n.Len(), len(all))
	}
	for id := -2; id < len(m.sent)+2; id++ {
		want, is := m.head(id)
		if got, there := n.Head(id); got != want || there != is {
			t.Fatalf("Head(%d) is %v %v, not %v %v", id, got, there, want, is)
		}
	}
	for class := -2; class < 5; class++ {
		want := slices.DeleteFunc(slices.Clone(all), func(f net.Flight) bool { return classOf(f.Msg.Kind) != class })
		if got := over(n, class); !slices.Equal(got, want) {
			t.Fatalf("Each(%d) is %v, not %v", class, got, want)
		}
		for from := -2; from < 6; from++ {
			for to := -2; to < 6; to++ {
				if got, want := n.Room(from, to, class), m.left(from, to, class); got != want {
					t.Fatalf("Room(%d, %d, %d) is %d, not %d", from, to, class, got, want)
				}
			}
		}
	}
}

// over is all that Each goes over.
func over(n *net.Net, class int) []net.Flight {
	var l []net.Flight
	for f := range n.Each(class) {
		l = append(l, f)
	}
	return l
}

func ids(l []net.Flight) []int {
	var out []int
	for _, f := range l {
		out = append(out, f.ID)
	}
	return out
}

// same tells whether two errors are one: a sentinel, or one around the same place.
func same(a, b error) bool {
	x, is := a.(*api.At)
	y, too := b.(*api.At)
	if is && too {
		return *x == *y
	}
	return a == b
}

func at(pos int, err error) error { return &api.At{Pos: pos, Err: err} }
