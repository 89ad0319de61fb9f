package litmus_test

import (
	"slices"
	"testing"

	"corral/api"
	"corral/litmus"
	"corral/wmo"
)

// model goes through all orders there are, and asks wmo.Check of each, on the lists as they were handed in.
type model struct {
	harts  [][]api.Op
	all    [][]uint32
	orders int
}

func newModel(t *testing.T, l [][]api.Op) *model {
	t.Helper()
	m := &model{harts: copied(l)}
	var left []wmo.Ref
	for h, ops := range l {
		for n, o := range ops {
			if o.Kind != api.Barrier {
				left = append(left, wmo.Ref{Hart: h, At: n})
			}
		}
	}
	m.lay(t, nil, left)
	slices.SortFunc(m.all, slices.Compare)
	m.all = slices.CompactFunc(m.all, slices.Equal)
	return m
}

// lay lays what is left behind order, in each way.
func (m *model) lay(t *testing.T, order, left []wmo.Ref) {
	t.Helper()
	if len(left) == 0 {
		m.ask(t, order)
	}
	for n, r := range left {
		m.lay(t, append(slices.Clone(order), r), slices.Delete(slices.Clone(left), n, n+1))
	}
}

// ask takes the order, if Check does.
func (m *model) ask(t *testing.T, order []wmo.Ref) {
	t.Helper()
	for p, r := range order {
		if o := &m.harts[r.Hart][r.At]; o.Kind != api.Write {
			o.Got = m.value(order, p)
		}
	}
	err := wmo.Check(m.harts, order, func(uint32) byte { return 0 })
	if where, is := err.(*api.At); is && where.Err == api.ErrOrder {
		return
	} else if err != nil {
		t.Fatalf("%v: %v of %+v", err, order, m.harts)
	}
	var x []uint32
	for _, ops := range m.harts {
		for _, o := range ops {
			if o.Kind == api.Read || o.Kind == api.Both {
				x = append(x, o.Got)
			}
		}
	}
	m.all, m.orders = append(m.all, x), m.orders+1
}

// value is what the one at p has to read: of each byte what the last in order wrote of those that it sees.
func (m *model) value(order []wmo.Ref, p int) uint32 {
	r := order[p]
	var v uint32
	for i := range m.harts[r.Hart][r.At].Size {
		addr := m.harts[r.Hart][r.At].Addr + uint32(i)
		var b byte
		for q, w := range order {
			o := m.harts[w.Hart][w.At]
			sees := q < p || w.Hart == r.Hart && w.At < r.At
			if sees && o.Kind != api.Read && o.Addr <= addr && addr-o.Addr < uint32(o.Size) {
				b = byte(o.Value >> (8 * (addr - o.Addr)))
			}
		}
		v |= uint32(b) << (8 * i)
	}
	return v
}

// picks is numbers without a pattern, the same at each run.
type picks uint64

// below is the next one, less than n.
func (p *picks) below(n int) int {
	*p = *p*6364136223846793005 + 1442695040888963407
	return int(uint64(*p)>>33) % n
}

// once tells of one in so many.
func (p *picks) once(n int) bool { return p.below(n) == 0 }

// places is a few places ahead of n.
func (p *picks) places(n int) []int {
	var l []int
	for n > 0 && p.once(5) {
		l = append(l, p.below(n))
	}
	return l
}

// op is an operation that may stand behind these.
func (p *picks) op(l []api.Op) api.Op {
	size := []int{1, 2, 4, 4, 4}[p.below(5)]
	o := api.Op{Kind: 1 + p.below(2), Size: size, Value: uint32(1 + p.below(3)), Got: uint32(p.below(3)), Aq: p.once(12), Rl: p.once(12)}
	if p.once(3) {
		o.Value *= 0x01010101
	}
	o.Addr = uint32(p.below(8)) &^ uint32(size-1)
	switch {
	case p.once(8):
		o.Kind, o.Size, o.Addr = api.Both, 4, o.Addr&^3
	case p.once(5):
		o.Kind, o.Size, o.Addr, o.Paired = api.Read, 4, o.Addr&^3, true
	case p.once(5):
		o = api.Op{Kind: api.Barrier, Pred: p.below(4), Succ: p.below(4)}
	}
	o.AddrDeps, o.DataDeps, o.Ctrl = p.places(len(l)), p.places(len(l)), p.places(len(l))
	return o
}

// lists is operations of so many harts, n of them no Barriers; behind an Lr there often is its Sc.
func (p *picks) lists(harts, n int) [][]api.Op {
	l, open := make([][]api.Op, harts), make([]int, harts)
	for n > 0 {
		h := p.below(harts)
		o := p.op(l[h])
		if open[h] > 0 && p.once(2) {
			o = api.Op{Kind: api.Write, Size: 4, Addr: l[h][open[h]-1].Addr, Value: o.Value, Paired: true, Aq: o.Aq, Rl: o.Rl}
		}
		l[h] = append(l[h], o)
		switch {
		case o.Paired && o.Kind == api.Read:
			open[h] = len(l[h])
		case o.Paired:
			open[h] = 0
		}
		if o.Kind != api.Barrier {
			n--
		}
	}
	return l
}

// hold holds the calls against the model.
func (m *model) hold(t *testing.T, l [][]api.Op) {
	t.Helper()
	all, err := litmus.Outcomes(l...)
	if err != nil || !equal(all, m.all) {
		t.Fatalf("%v, %v, not %v, of %+v", all, err, m.all, l)
	}
	orders(t, m.orders, l...)
}

func TestModel(t *testing.T) { // P15.1: lists of all sorts, against each order that wmo.Check takes
	p := picks(15)
	parted, many := 0, 0
	for n := range 2200 {
		l := p.lists(1+n%4, 1+n%11/2)
		m := newModel(t, l)
		m.hold(t, l)
		if n%10 == 0 {
			outcomes(t, m.all, l...)
		}
		if m.orders > 10 && len(m.all) > 3 {
			many++
		}
		if hasSc(l) && m.orders < count(t, withoutPairs(l)) {
			parted++
		}
	}
	if parted < 50 || many < 200 {
		t.Error("the lists have too little in them", parted, many)
	}
}

func TestModelFull(t *testing.T) { // P15.1: as many operations as there may be
	p := picks(7)
	for n := range 30 {
		l := p.lists(2+n%3, 6+n%2)
		newModel(t, l).hold(t, l)
	}
}

// hasSc tells whether there is one; without being Paired it still has to stay behind its Lr.
func hasSc(l [][]api.Op) bool {
	return slices.ContainsFunc(l, func(ops []api.Op) bool {
		return slices.ContainsFunc(ops, func(o api.Op) bool { return o.Paired && o.Kind == api.Write })
	})
}

// withoutPairs is lists with no Lr and no Sc.
func withoutPairs(l [][]api.Op) [][]api.Op {
	l = copied(l)
	for h := range l {
		for n := range l[h] {
			l[h][n].Paired = false
		}
	}
	return l
}

func count(t *testing.T, l [][]api.Op) int {
	t.Helper()
	n, err := litmus.Orders(l...)
	if err != nil {
		t.Fatal(err)
	}
	return n
}

func TestMoreKept(t *testing.T) { // P15.1, P13.4: with less that has to stay in order nothing is lost
	p := picks(134)
	fewer, less := 0, 0
	for n := range 300 {
		l := withoutPairs(p.lists(2+n%2, 6))
		kept, err := litmus.Outcomes(l...)
		if err != nil {
			t.Fatal(err)
		}
		free, _ := litmus.Outcomes(loose(l)...)
		for _, x := range kept {
			if !slices.ContainsFunc(free, func(y []uint32) bool { return slices.Equal(x, y) }) {
				t.Fatalf("%v is not among %v, of %+v", x, free, l)
			}
		}
		if len(kept) < len(free) {
			less++
		}
		if few, many := count(t, l), count(t, loose(l)); few > many {
			t.Fatalf("%d orders, not %d, of %+v", few, many, l)
		} else if few < many {
			fewer++
		}
	}
	if fewer < 200 || less < 10 {
		t.Error("too little is kept in order", fewer, less)
	}
}

// turns is what harts get that take turns at random over one memory; an Sc that can't be done lets it fail.
func (p *picks) turns(l [][]api.Op) ([]uint32, bool) {
	memory, got := map[uint32]byte{}, make([][]uint32, len(l))
	held, next, left := make([]bool, len(l)), make([]int, len(l)), 0
	for _, ops := range l {
		left += len(ops)
	}
	for ; left > 0; left-- {
		h := p.below(len(l))
		for next[h] == len(l[h]) {
			h = (h + 1) % len(l)
		}
		o := l[h][next[h]]
		next[h]++
		if o.Paired && o.Kind == api.Write && !held[h] {
			return nil, false
		}
		if o.Paired {
			held[h] = o.Kind == api.Read
		}
		var v uint32
		for i := range o.Size {
			addr := o.Addr + uint32(i)
			v |= uint32(memory[addr]) << (8 * i)
			if o.Kind == api.Write || o.Kind == api.Both {
				memory[addr] = byte(o.Value >> (8 * i))
			}
		}
		if o.Kind == api.Read || o.Kind == api.Both {
			got[h] = append(got[h], v)
		}
		for other := range held {
			if other != h && o.Kind != api.Read && o.Size > 0 {
				held[other] = false // more is let go of than has to be
			}
		}
	}
	return slices.Concat(got...), true
}

func TestTurns(t *testing.T) { // P15.1: what harts get that take turns is among them
	p := picks(99)
	done := 0
	for n := range 400 {
		l := p.lists(2+n%3, 3+n%4)
		for range 5 {
			if x, is := p.turns(l); is {
				allowed(t, true, x, l...)
				done++
			}
		}
	}
	if done < 1000 {
		t.Error("too few came to their end", done)
	}
}
