package fabric_test

import (
	"fmt"
	"maps"
	"math"
	"slices"
	"testing"

	"corral/api"
	"corral/fabric"
	"corral/home"
	"corral/lone"
	"corral/mem"
	"corral/net"
)

// model is a fabric the long way: whatever it is asked it finds among all that there is, and it knows by itself what was written last.
type model struct {
	c     fabric.Config
	homes []*home.Home
	lines [][]*lone.Line // of each hart
	used  []map[int]int  // of each hart the lines that have a place, and when they were used
	lost  []map[int]bool // of each hart
	way   []net.Flight
	next  int
	now   int
	last  *mem.Memory // as the last Write of each byte left it
}

// memory is one of so many lines, that begins with these words.
func memory(t *testing.T, lines int, words ...uint32) *mem.Memory {
	t.Helper()
	m, err := mem.New(lines*api.LineBytes, words...)
	if err != nil {
		t.Fatal(err)
	}
	return m
}

// made is a fabric over so many lines, that begin with these words, and its model.
func made(t *testing.T, c fabric.Config, lines int, words ...uint32) (*fabric.Fabric, *model) {
	t.Helper()
	data := memory(t, lines, words...)
	f, err := fabric.New(c, data)
	if err != nil {
		t.Fatal(err)
	}
	m := &model{c: c, last: data}
	for line := range lines {
		d, _ := data.Line(line)
		m.homes = append(m.homes, home.New(line, c.Harts, d))
	}
	for hart := range c.Harts {
		var l []*lone.Line
		for line := range lines {
			l = append(l, lone.New(line, hart))
		}
		m.lines = append(m.lines, l)
		m.used = append(m.used, map[int]int{})
		m.lost = append(m.lost, map[int]bool{})
	}
	return f, m
}

// clone is another model, that goes on by itself.
func (m *model) clone() *model {
	c := *m
	c.homes, c.lines, c.used, c.lost = nil, nil, nil, nil
	for _, h := range m.homes {
		c.homes = append(c.homes, h.Clone())
	}
	for h, side := range m.lines {
		var l []*lone.Line
		for _, x := range side {
			l = append(l, x.Clone())
		}
		c.lines = append(c.lines, l)
		c.used = append(c.used, maps.Clone(m.used[h]))
		c.lost = append(c.lost, maps.Clone(m.lost[h]))
	}
	c.way = slices.Clone(m.way)
	c.last = m.last.Clone()
	return &c
}

// is tells whether there are such a hart and such a line.
func (m *model) is(h, line int) bool {
	return h >= 0 && h < m.c.Harts && line >= 0 && line < len(m.homes)
}

// touch makes a line the last one that the hart used.
func (m *model) touch(h, line int) {
	m.now++
	m.used[h][line] = m.now
}

func (m *model) Read(h int, addr uint32, size int) (uint32, bool) {
	line := mem.LineOf(addr)
	if !m.is(h, line) || !m.last.Has(addr, size) || !m.lines[h][line].Can(false) {
		return 0, false
	}
	m.touch(h, line)
	return m.last.Load(addr, size)
}

func (m *model) Write(h int, addr uint32, size int, v uint32) bool {
	line := mem.LineOf(addr)
	if !m.is(h, line) || !m.last.Has(addr, size) || !m.lines[h][line].Can(true) {
		return false
	}
	m.touch(h, line)
	m.last.Store(addr, size, v)
	d, _ := m.last.Line(line)
	return m.lines[h][line].Set(d)
}

// waiting is how many of the hart's lines wait.
func (m *model) waiting(h int) int {
	n := 0
	for _, l := range m.lines[h] {
		if l.Waits() != 0 {
			n++
		}
	}
	return n
}

// victim is the line that leaves its place for that one: -1 where none has to, false where none can.
func (m *model) victim(h, line int) (int, bool) {
	if _, there := m.used[h][line]; there {
		return -1, true
	}
	n, oldest := 0, -1
	for x, when := range m.used[h] {
		if (x-line)%m.c.Sets != 0 {
			continue
		}
		n++
		if m.lines[h][x].Waits() == 0 && (oldest < 0 || when < m.used[h][oldest]) {
			oldest = x
		}
	}
	if n < m.c.Ways {
		return -1, true
	}
	return oldest, oldest >= 0
}

func (m *model) Ask(h, line int, write bool) bool {
	if !m.is(h, line) {
		return false
	}
	l := m.lines[h][line]
	if l.Can(write) || l.Waits() != 0 || m.waiting(h) >= 4 {
		return false
	}
	victim, is := m.victim(h, line)
	if !is {
		return false
	}
	if victim >= 0 {
		sent, _ := m.lines[h][victim].Evict()
		m.send(sent)
		delete(m.used[h], victim)
		m.lost[h][victim] = true
	}
	sent, _ := l.Ask(write)
	m.send(sent)
	m.touch(h, line)
	return true
}

func (m *model) send(l []api.Msg) {
	for _, x := range l {
		m.way = append(m.way, net.Flight{ID: m.next, Msg: x})
		m.next++
	}
}

func (m *model) Lost(h int) []int {
	if !m.is(h, 0) {
		return nil
	}
	l := slices.Sorted(maps.Keys(m.lost[h]))
	m.lost[h] = map[int]bool{}
	return l
}

// link tells one link from each other one.
func link(x api.Msg) [3]int { return [3]int{x.From, x.To, net.Class(x.Kind)} }

// fits tells whether all of l have room, as it is now.
func (m *model) fits(l []api.Msg) bool {
	n := map[[3]int]int{}
	for _, x := range m.way {
		n[link(x.Msg)]++
	}
	for _, x := range l {
		if n[link(x)]++; n[link(x)] > m.c.Room {
			return false
		}
	}
	return true
}

// at is where the message of that number stands among those on their way; -1 where it does not.
func (m *model) at(id int) int {
	return slices.IndexFunc(m.way, func(x net.Flight) bool { return x.ID == id })
}

func (m *model) Deliver(id int) bool {
	i := m.at(id)
	if i < 0 {
		return false
	}
	x := m.way[i].Msg
	if x.To == -1 {
		h := m.homes[x.Line]
		if !h.Takes(x) || !m.fits(h.Clone().Take(x)) {
			return false
		}
		m.way = slices.Delete(m.way, i, i+1)
		m.send(h.Take(x))
		return true
	}
	l := m.lines[x.To][x.Line]
	sent, _ := l.Clone().Take(x)
	if !l.Takes(x) || !m.fits(sent) {
		return false
	}
	was := l.State()
	m.way = slices.Delete(m.way, i, i+1)
	l.Take(x)
	m.send(sent)
	if was != api.Invalid && l.State() == api.Invalid {
		m.lost[x.To][x.Line] = true
	}
	if l.Waits() == 0 && l.State() == api.Invalid {
		delete(m.used[x.To], x.Line)
	}
	return true
}

func (m *model) Settle() bool {
	for i := 0; i < len(m.way); {
		if m.Deliver(m.way[i].ID) {
			i = 0
		} else {
			i++
		}
	}
	return len(m.way) == 0
}

func (m *model) view(line int) (fabric.View, bool) {
	if !m.is(0, line) {
		return fabric.View{}, false
	}
	v := fabric.View{Line: line, Memory: m.homes[line].Data(), Busy: m.homes[line].Busy()}
	for _, side := range m.lines {
		d, _ := side[line].Data()
		v.State = append(v.State, side[line].State())
		v.Data = append(v.Data, d)
		if side[line].Waits() == api.Put {
			v.Puts = true
		}
	}
	return v, true
}

// same tells whether two views tell the same.
func same(a, b fabric.View) bool {
	return a.Line == b.Line && a.Memory == b.Memory && a.Busy == b.Busy && a.Puts == b.Puts &&
		slices.Equal(a.State, b.State) && slices.Equal(a.Data, b.Data)
}

// check holds all that a fabric tells, and that it does not change by telling, against its model.
func check(t *testing.T, f *fabric.Fabric, m *model) {
	t.Helper()
	if got := f.Flights(); !slices.Equal(got, m.way) {
		t.Fatalf("on their way are %v, not %v", got, m.way)
	}
	if got := f.Lines(); got != len(m.homes) {
		t.Fatalf("%d lines, not %d", got, len(m.homes))
	}
	for line := range m.homes {
		got, is := f.View(line)
		if want, _ := m.view(line); !is || !same(got, want) {
			t.Fatalf("the view is %v %v, not %v", got, is, want)
		}
	}
	if got := f.Final(); !got.Same(m.last) {
		t.Fatalf("Final is %s, not %s", text(got), text(m.last))
	}
}

// text is a memory for what a failing test says.
func text(m *mem.Memory) string {
	var l []api.Line
	for i := range m.Bytes() / api.LineBytes {
		d, _ := m.Line(i)
		l = append(l, d)
	}
	return fmt.Sprint(l)
}

// The doings.
const (
	ask = iota
	read
	write
	lost
	deliver
	settle
)

// doing is a call, with what it is handed.
type doing struct {
	what, h, line int // line is the number of a message in what is delivered
	writes        bool
	addr          uint32
	size          int
	v             uint32
}

// answer is what a call tells.
type answer struct {
	is   bool
	v    uint32
	list []int
}

// either is a fabric, or its model.
type either interface {
	Read(h int, addr uint32, size int) (uint32, bool)
	Write(h int, addr uint32, size int, v uint32) bool
	Ask(h, line int, write bool) bool
	Lost(h int) []int
	Deliver(id int) bool
	Settle() bool
}

// of does it.
func (d doing) of(x either) (a answer) {
	switch d.what {
	case ask:
		a.is = x.Ask(d.h, d.line, d.writes)
	case read:
		a.v, a.is = x.Read(d.h, d.addr, d.size)
	case write:
		a.is = x.Write(d.h, d.addr, d.size, d.v)
	case lost:
		a.list = x.Lost(d.h)
	case deliver:
		a.is = x.Deliver(d.line)
	case settle:
		a.is = x.Settle()
	}
	return a
}

// did does it to both, and holds what the one tells against the other.
func did(t *testing.T, f *fabric.Fabric, m *model, d doing) answer {
	t.Helper()
	want, got := d.of(m), d.of(f)
	if got.is != want.is || got.v != want.v || !slices.Equal(got.list, want.list) {
		t.Fatalf("%+v tells %+v, not %+v", d, got, want)
	}
	return got
}

// none is numbers of which there is no hart and no line, some of them small ones but for bits far up.
func none() []int {
	return []int{-1, -2, -4, -8, -16, math.MinInt32, -1 << 32, -1<<32 + 1, math.MinInt, math.MinInt + 1,
		1 << 16, 1 << 31, 1 << 32, 1<<32 + 1, 1<<40 + 2, 1 << 62, math.MaxInt}
}

// asks has a hart ask, which has to be.
func asks(t *testing.T, f *fabric.Fabric, h, line int, write bool) {
	t.Helper()
	if !f.Ask(h, line, write) {
		t.Fatalf("hart %d could not ask for %d", h, line)
	}
}

// gets has a hart ask, and all come of it.
func gets(t *testing.T, f *fabric.Fabric, h, line int, write bool) {
	t.Helper()
	asks(t, f, h, line, write)
	if !f.Settle() {
		t.Fatal("not all has come")
	}
}

// puts has a hart that has the line write v as its first word.
func puts(t *testing.T, f *fabric.Fabric, h, line int, v uint32) {
	t.Helper()
	if !f.Write(h, uint32(line*api.LineBytes), 4, v) {
		t.Fatalf("hart %d could not write %d", h, line)
	}
}

// comes delivers the one message on its way of that kind, of that line, and to or from that hart.
func comes(t *testing.T, f *fabric.Fabric, kind, line, h int) {
	t.Helper()
	if !tries(t, f, kind, line, h) {
		t.Fatalf("kind %d of line %d, hart %d was not delivered", kind, line, h)
	}
}

// tries is the same, and tells whether it was delivered.
func tries(t *testing.T, f *fabric.Fabric, kind, line, h int) bool {
	t.Helper()
	var ids []int
	for _, x := range f.Flights() {
		if m := x.Msg; m.Kind == kind && m.Line == line && (m.From == h || m.To == h) {
			ids = append(ids, x.ID)
		}
	}
	if len(ids) != 1 {
		t.Fatalf("%d are on their way of kind %d, line %d, hart %d: %v", len(ids), kind, line, h, f.Flights())
	}
	return f.Deliver(ids[0])
}

// states holds a line's states, hart by hart, against what they have to be.
func states(t *testing.T, f *fabric.Fabric, line int, want ...int) {
	t.Helper()
	v, _ := f.View(line)
	if !slices.Equal(v.State, want) {
		t.Errorf("line %d is %v, not %v", line, v.State, want)
	}
}

// kinds is the kinds of the messages on their way, by number.
func kinds(f *fabric.Fabric) []int {
	var l []int
	for _, x := range f.Flights() {
		l = append(l, x.Msg.Kind)
	}
	return l
}

// flies holds the kinds on their way against what they have to be.
func flies(t *testing.T, f *fabric.Fabric, want ...int) {
	t.Helper()
	if got := kinds(f); !slices.Equal(got, want) {
		t.Errorf("on their way are %v, not %v", got, want)
	}
}

// finally holds the first word of a line, as Final has it, against what it has to be.
func finally(t *testing.T, f *fabric.Fabric, line int, want uint32) {
	t.Helper()
	if got, _ := f.Final().Load(uint32(line*api.LineBytes), 4); got != want {
		t.Errorf("Final has %d in line %d, not %d", got, line, want)
	}
}
