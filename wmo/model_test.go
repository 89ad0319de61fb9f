package wmo_test

import (
	"slices"
	"testing"

	"corral/api"
	"corral/ppo"
	"corral/wmo"
)

// model tells of operations and an order what the chapter says, word by word, with no thought of time.
type model struct {
	harts [][]api.Op
	order []wmo.Ref
	first func(addr uint32) byte
}

func (m model) is(r wmo.Ref) bool {
	return 0 <= r.Hart && r.Hart < len(m.harts) && 0 <= r.At && r.At < len(m.harts[r.Hart]) && m.harts[r.Hart][r.At].Kind != api.Barrier
}

func (m model) op(p int) api.Op { return m.harts[m.order[p].Hart][m.order[p].At] }

func (m model) reads(p int) bool  { return m.op(p).Kind == api.Read || m.op(p).Kind == api.Both }
func (m model) writes(p int) bool { return m.op(p).Kind == api.Write || m.op(p).Kind == api.Both }

// touches tells whether the one at p has that byte.
func (m model) touches(p int, addr uint32) bool {
	o := m.op(p)
	return o.Addr <= addr && uint64(addr) < uint64(o.Addr)+uint64(o.Size)
}

// wrote is what the one at p wrote there.
func (m model) wrote(p int, addr uint32) byte {
	o := m.op(p)
	return byte(o.Value >> (8 * (addr - o.Addr)))
}

// refs is the place of the first Ref that is none, or where one is missing; below 0: none.
func (m model) refs() int {
	for p, r := range m.order {
		if !m.is(r) || slices.Contains(m.order[:p], r) {
			return p
		}
	}
	for h, l := range m.harts {
		for n, o := range l {
			if o.Kind != api.Barrier && !slices.Contains(m.order, wmo.Ref{Hart: h, At: n}) {
				return len(m.order)
			}
		}
	}
	return -1
}

// stay is the place of the first one ahead of which there is one that has to stay behind it.
func (m model) stay() int {
	for p, a := range m.order {
		for _, b := range m.order[:p] {
			if a.Hart == b.Hart && ppo.Why(m.harts[a.Hart], a.At, b.At) != 0 {
				return p
			}
		}
	}
	return -1
}

// source is the place of the write that the one at p has to read that byte from; below 0: none.
func (m model) source(p int, addr uint32) int {
	for q := len(m.order) - 1; q >= 0; q-- {
		own := m.order[q].Hart == m.order[p].Hart && m.order[q].At < m.order[p].At
		if m.writes(q) && m.touches(q, addr) && (q < p || own) {
			return q
		}
	}
	return -1
}

func (m model) values() int {
	for p := range m.order {
		if m.reads(p) && m.op(p).Got != m.value(p) {
			return p
		}
	}
	return -1
}

// value is what the one at p has to read.
func (m model) value(p int) uint32 {
	var v uint32
	for i := range m.op(p).Size {
		addr := m.op(p).Addr + uint32(i)
		b := m.first(addr)
		if q := m.source(p, addr); q >= 0 {
			b = m.wrote(q, addr)
		}
		v |= uint32(b) << (8 * i)
	}
	return v
}

func (m model) pairs() int {
	for p, r := range m.order {
		lr := ppo.Pairs(m.harts[r.Hart])[r.At]
		if lr < 0 {
			continue
		}
		at := slices.Index(m.order, wmo.Ref{Hart: r.Hart, At: lr})
		for i := range uint32(4) {
			addr := m.op(at).Addr + i
			for q := m.source(at, addr) + 1; q < p; q++ {
				if m.writes(q) && m.touches(q, addr) && m.order[q].Hart != r.Hart {
					return p
				}
			}
		}
	}
	return -1
}

// The ways in which Check may end.
const (
	byRef = iota
	byStay
	byValue
	byPair
	byNone
	ends
)

// check is what Check has to answer, of operations that are valid, and which way it is.
func (m model) check() (error, int) {
	for n, such := range []func() int{m.refs, m.stay, m.values, m.pairs} {
		if p := such(); p >= 0 && n == byValue {
			return at(p, api.ErrValue), n
		} else if p >= 0 {
			return at(p, api.ErrOrder), n
		}
	}
	return nil, byNone
}

// last is what Last has to answer.
func (m model) last(addr uint32) (byte, bool) {
	b, is := byte(0), false
	for p, r := range m.order {
		if m.is(r) && !slices.Contains(m.order[:p], r) && m.writes(p) && m.touches(p, addr) {
			b, is = m.wrote(p, addr), true
		}
	}
	return b, is
}

// hold holds Check and Last against the model, and tells the way.
func (m model) hold(t *testing.T) int {
	t.Helper()
	if err := wmo.Valid(m.harts); err != nil {
		t.Fatalf("%v, of %+v", err, m.harts)
	}
	want, way := m.check()
	if err := wmo.Check(m.harts, m.order, m.first); !same(err, want) {
		t.Fatalf("%v, not %v: %v of %+v", err, want, m.order, m.harts)
	}
	for addr := range uint32(18) {
		want, has := m.last(addr)
		if b, is := wmo.Last(m.harts, m.order, addr); b != want || is != has {
			t.Fatalf("%d, %v, not %d, %v: at %d, %v of %+v", b, is, want, has, addr, m.order, m.harts)
		}
	}
	return way
}

// places is a few places ahead of n.
func (p *picks) places(n int) []int {
	var l []int
	for n > 0 && p.once(6) {
		l = append(l, p.below(n))
	}
	return l
}

// op is an operation that may stand behind these; room is how many words there are to lie at.
func (p *picks) op(l []api.Op, room int) api.Op {
	size := []int{1, 2, 4, 4}[p.below(4)]
	o := api.Op{Kind: 1 + p.below(2), Size: size, Value: uint32(p.below(1<<31)) * 3, Aq: p.once(12), Rl: p.once(12)}
	o.Addr = uint32(p.below(4*room)) &^ uint32(size-1)
	switch {
	case p.once(8):
		o.Kind, o.Size, o.Addr = api.Both, 4, o.Addr&^3
	case p.once(8):
		o.Kind, o.Size, o.Addr, o.Paired = api.Read, 4, o.Addr&^3, true
	case p.once(8):
		o = api.Op{Kind: api.Barrier, Pred: p.below(4), Succ: p.below(4)}
	}
	o.AddrDeps, o.DataDeps, o.Ctrl = p.places(len(l)), p.places(len(l)), p.places(len(l))
	return o
}

// list is operations of a hart; behind an Lr there often is its Sc.
func (p *picks) list(n, room int) []api.Op {
	var l []api.Op
	for open := -1; len(l) < n; {
		o := p.op(l, room)
		if open >= 0 && p.once(2) {
			o = api.Op{Kind: api.Write, Size: 4, Addr: l[open].Addr, Value: o.Value, Paired: true, Aq: o.Aq, Rl: o.Rl}
		}
		if o.Paired {
			open = -1
		}
		if o.Paired && o.Kind == api.Read {
			open = len(l)
		}
		l = append(l, o)
	}
	return l
}

// lists is operations of a few harts.
func (p *picks) lists(n, room int) [][]api.Op {
	l := make([][]api.Op, 1+p.below(4))
	for h := range l {
		l[h] = p.list(p.below(n+1), room)
	}
	return l
}

// merge is the operations of the lists, each list's in order; one here and there is taken early where it may be.
func (p *picks) merge(harts [][]api.Op) []wmo.Ref {
	var left, order []wmo.Ref
	for h, l := range harts {
		for n, o := range l {
			if o.Kind != api.Barrier {
				left = append(left, wmo.Ref{Hart: h, At: n})
			}
		}
	}
	for len(left) > 0 {
		n := p.below(len(left))
		if p.stuck(harts, left, n) {
			continue
		}
		order = append(order, left[n])
		left = slices.Delete(left, n, n+1)
	}
	return order
}

// stuck tells whether one that is left has to stay ahead of the n-th; now and then that is overlooked.
func (p *picks) stuck(harts [][]api.Op, left []wmo.Ref, n int) bool {
	for _, a := range left {
		if a.Hart == left[n].Hart && ppo.Why(harts[a.Hart], a.At, left[n].At) != 0 {
			return !p.once(400)
		}
	}
	return false
}

// fill lets all that read have Got what they have to.
func (m model) fill() {
	for p, r := range m.order {
		if m.reads(p) {
			m.harts[r.Hart][r.At].Got = m.value(p)
		}
	}
}

// spoil makes one thing wrong, mostly.
func (p *picks) spoil(m *model) {
	if len(m.order) == 0 {
		return
	}
	n := p.below(len(m.order))
	r := m.order[n]
	switch p.below(12) {
	case 0:
		m.harts[r.Hart][r.At].Got ^= 1 << p.below(32)
	case 1:
		m.order = slices.Delete(m.order, n, n+1)
	case 2:
		m.order = slices.Insert(m.order, p.below(len(m.order)+1), r)
	case 3:
		m.order[n] = wmo.Ref{Hart: p.below(6) - 1, At: p.below(12) - 1}
	case 4:
		q := p.below(len(m.order))
		m.order[n], m.order[q] = m.order[q], r
	}
}

func TestModel(t *testing.T) { // P14.2, P14.3: lists and orders of all sorts, against the chapter's words
	p := picks(14)
	var sum [ends]int
	for n := range 6000 {
		l := p.lists(1+n%9, 1+n%4)
		m := model{l, p.merge(l), low}
		m.fill()
		p.spoil(&m)
		sum[m.hold(t)]++
	}
	if slices.Min(sum[:]) < 150 {
		t.Error("the lists have too little in them", sum)
	}
}

func TestModelLong(t *testing.T) { // P14.2, P14.3: lists in which much lies between
	p := picks(41)
	for range 25 {
		l := harts(p.list(30, 3), p.list(30, 3), p.list(30, 3))
		m := model{l, p.merge(l), low}
		m.fill()
		m.hold(t)
	}
}

// fuzzed is an operation of four bytes, of whatever shape.
func fuzzed(b []byte) api.Op {
	o := api.Op{Kind: int(b[0]&7) - 1, Size: int(b[1]&7) - 1, Addr: uint32(int8(b[2]) >> 2), Value: uint32(b[3]), Got: uint32(b[3] >> 4), Pred: int(b[1] >> 3 & 3), Succ: int(b[1] >> 5 & 3)}
	o.Paired, o.Aq, o.Rl = b[0]&8 != 0, b[0]&16 != 0, b[0]&32 != 0
	if b[0]&64 != 0 {
		o.AddrDeps, o.DataDeps, o.Ctrl = []int{int(b[2] & 7)}, []int{int(b[3] & 3)}, []int{int(b[3]) - 3}
	}
	return o
}

func FuzzAny(f *testing.F) { // P14.1, P14.2, P14.3, P0.1
	f.Add([]byte{3, 5, 0, 1, 2, 5, 0, 1}, []byte{0, 0, 1, 0})
	f.Add([]byte{10, 5, 0, 1, 2, 5, 0, 1, 11, 5, 0, 9}, []byte{0, 0, 1, 0, 0, 1})
	f.Fuzz(func(t *testing.T, b, o []byte) {
		l := make([][]api.Op, 2)
		for n := 0; len(b) >= 4 && n < 20; n, b = n+1, b[4:] {
			l[n%2] = append(l[n%2], fuzzed(b))
		}
		var order []wmo.Ref
		for ; len(o) >= 2 && len(order) < 24; o = o[2:] {
			order = append(order, wmo.Ref{Hart: int(int8(o[0])), At: int(int8(o[1]))})
		}
		_, _ = wmo.Last(l, order, 3)
		err := wmo.Check(l, order, zero)
		if bad := wmo.Valid(l); bad != nil && !same(err, bad) {
			t.Fatal(err, bad)
		} else if bad == nil {
			if want, _ := (model{l, order, zero}).check(); !same(err, want) {
				t.Fatalf("%v, not %v: %v of %+v", err, want, order, l)
			}
		}
	})
}
