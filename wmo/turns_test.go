package wmo_test

import (
	"slices"
	"testing"

	"corral/api"
	"corral/asm"
	"corral/dep"
	replay "corral/hart"
	"corral/seq"
	"corral/wmo"
)

// turns is harts that take turns over one memory, in which each write is seen at once.
type turns struct {
	memory map[uint32]byte
	held   map[int]api.Op // of each hart: its Lr, while no other one wrote there
	harts  [][]api.Op
	order  []wmo.Ref
}

func newTurns(n int) *turns {
	return &turns{memory: map[uint32]byte{}, held: map[int]api.Op{}, harts: make([][]api.Op, n)}
}

// at is a byte that was written last, or what low says.
func (s *turns) at(addr uint32) byte {
	if b, is := s.memory[addr]; is {
		return b
	}
	return low(addr)
}

// do is that hart h does one more; of an Sc: if its Lr is held.
func (s *turns) do(h int, o api.Op) {
	held, is := s.held[h]
	if o.Paired && o.Kind == api.Write && (!is || held.Addr != o.Addr) {
		return
	}
	o.Got = 0
	for i := range o.Size {
		addr := o.Addr + uint32(i)
		if o.Kind == api.Read || o.Kind == api.Both {
			o.Got |= uint32(s.at(addr)) << (8 * i)
		}
		if o.Kind == api.Write || o.Kind == api.Both {
			s.memory[addr] = byte(o.Value >> (8 * i))
			s.loose(h, addr)
		}
	}
	if o.Paired {
		delete(s.held, h)
	}
	if o.Paired && o.Kind == api.Read {
		s.held[h] = o
	}
	if o.Kind != api.Barrier {
		s.order = append(s.order, wmo.Ref{Hart: h, At: len(s.harts[h])})
	}
	s.harts[h] = append(s.harts[h], o)
}

// loose is that h wrote a byte: the others hold it no more.
func (s *turns) loose(h int, addr uint32) {
	for other, o := range s.held {
		if other != h && o.Addr <= addr && addr-o.Addr < 4 {
			delete(s.held, other)
		}
	}
}

// good holds that it is good, and that Last tells what memory has.
func (s *turns) good(t *testing.T, room int) {
	t.Helper()
	if err := wmo.Check(s.harts, s.order, low); err != nil {
		t.Fatalf("%v: %v of %+v", err, s.order, s.harts)
	}
	for addr := range uint32(4 * room) {
		want, has := s.memory[addr]
		if b, is := wmo.Last(s.harts, s.order, addr); b != want || is != has {
			t.Fatal(addr, b, is, want, has)
		}
	}
}

func TestOneHartAfterTheOther(t *testing.T) { // P14.4: each hart to its end
	p := picks(400)
	for n := range 300 {
		s := newTurns(1 + n%5)
		for h := range s.harts {
			for _, o := range p.list(n%13, 3) {
				s.do(h, o)
			}
		}
		s.good(t, 3)
	}
}

// next is an operation that may stand behind these; an Sc, now and then, of the last Lr, if no Paired one came since.
func (p *picks) next(l []api.Op, room int) api.Op {
	last := len(l) - 1
	for last >= 0 && !l[last].Paired {
		last--
	}
	if last >= 0 && l[last].Kind == api.Read && p.once(3) {
		return api.Op{Kind: api.Write, Size: 4, Addr: l[last].Addr, Value: uint32(p.below(1 << 31)), Paired: true}
	}
	return p.op(l, room)
}

func TestOperationByOperation(t *testing.T) { // P14.4: harts that take turns as they are picked
	p := picks(44)
	pairs := 0
	for n := range 600 {
		s := newTurns(2 + n%4)
		for range n % 40 {
			h := p.below(len(s.harts))
			s.do(h, p.next(s.harts[h], 2))
		}
		s.good(t, 2)
		for _, l := range s.harts {
			pairs += len(slices.DeleteFunc(l, func(o api.Op) bool { return !o.Paired || o.Kind != api.Write }))
		}
	}
	if pairs < 100 {
		t.Error("too few have an Lr that is held", pairs)
	}
}

func TestFullHouse(t *testing.T) { // P14.4, P14.1: as many harts and operations as there may be
	p := picks(4)
	s := newTurns(64)
	for range 19999 {
		h := p.below(64)
		s.do(h, p.op(s.harts[h], 8))
	}
	s.do(63, read(0, 0))
	if err := wmo.Check(s.harts, s.order, low); err != nil {
		t.Error(err)
	}
	l := s.harts[63]
	l[len(l)-1].Got ^= 1 << 31
	if err := wmo.Check(s.harts, s.order, low); !same(err, at(len(s.order)-1, api.ErrValue)) {
		t.Error(err)
	}
}

// room is the bytes of a machine, picked how often harts of it are.
const (
	room   = 4096
	picked = 600
)

// program is what all harts do: each with a turn of a lock, sums that all add to, and words of its own.
func program(t *testing.T) []uint32 {
	t.Helper()
	words, err := asm.Program(
		"addi x1, x0, 1024", "csrrs x10, 0xf14, x0", "slli x11, x10, 2", "add x11, x11, x1", "addi x5, x0, 1",
		"lr.w.aq x3, (x1)", "add x4, x3, x5", "sc.w.rl x6, x4, (x1)", "bne x6, x0, -12",
		"amoadd.w x7, x5, (x11)", "lw x8, 16(x1)", "addi x8, x8, 3", "sw x8, 16(x1)", "fence 3, 3", "sb x10, 21(x1)", "lhu x9, 20(x1)", "sh x9, 24(x11)",
		"jal x0, -48")
	if err != nil {
		t.Fatal(err)
	}
	return words
}

// told is the operations of one hart's events, and the place of each event's among them.
func told(t *testing.T, h int, events []api.Event) ([]api.Op, []int) {
	t.Helper()
	one := replay.New(h, room)
	var l []dep.Item
	for _, e := range events {
		effect, err := one.Replay(e)
		if err != nil {
			t.Fatal(err)
		}
		l = append(l, dep.Item{Word: e.Word, PA: e.PA, Load: e.Load, Value: effect.Value, Done: e.Done, Trap: e.Kind != api.Retired})
	}
	return dep.Ops(l), dep.Places(l)
}

// stamp is when an operation was done.
type stamp struct {
	wmo.Ref
	time int
}

// ran is a machine that was run, its operations and their order.
func ran(t *testing.T, words []uint32, p *picks) (*seq.Machine, [][]api.Op, []wmo.Ref) {
	t.Helper()
	m, err := seq.New(api.MaxHarts, room, words...)
	if err != nil {
		t.Fatal(err)
	}
	var events [api.MaxHarts][]api.Event
	for range picked {
		h := p.below(api.MaxHarts)
		events[h] = append(events[h], m.Run(h)...)
	}
	l := make([][]api.Op, api.MaxHarts)
	var stamps []stamp
	for h := range l {
		ops, places := told(t, h, events[h])
		for n, e := range events[h] {
			if places[n] >= 0 && ops[places[n]].Kind != api.Barrier {
				stamps = append(stamps, stamp{wmo.Ref{Hart: h, At: places[n]}, e.At})
			}
		}
		l[h] = ops
	}
	slices.SortFunc(stamps, func(a, b stamp) int { return a.time - b.time })
	var order []wmo.Ref
	for _, s := range stamps {
		order = append(order, s.Ref)
	}
	return m, l, order
}

func TestMachine(t *testing.T) { // P14.4: what harts of seq do
	p := picks(11)
	words := program(t)
	first := func(addr uint32) byte {
		if addr/4 >= uint32(len(words)) {
			return 0
		}
		return byte(words[addr/4] >> (8 * (addr % 4)))
	}
	done := 0
	for range 8 {
		m, l, order := ran(t, words, &p)
		if err := wmo.Check(l, order, first); err != nil {
			t.Fatal(err)
		}
		memory := m.Memory()
		for addr := range uint32(room) {
			want, _ := memory.Load(addr, 1)
			b, is := wmo.Last(l, order, addr)
			if !is {
				b = first(addr)
			}
			if uint32(b) != want {
				t.Error(addr, b, is, want)
			}
		}
		done += len(order)
	}
	if done < 1000 {
		t.Error("too little was done", done)
	}
}
