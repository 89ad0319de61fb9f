package ppo_test

import (
	"slices"
	"testing"

	"corral/api"
	"corral/ppo"
)

// model tells of operations what the chapter says, rule by rule and byte by byte, with no thought of time.
type model []api.Op

func (l model) reads(n int) bool  { return l[n].Kind == api.Read || l[n].Kind == api.Both }
func (l model) writes(n int) bool { return l[n].Kind == api.Write || l[n].Kind == api.Both }

// touches tells whether n, that is no Barrier, has that byte.
func (l model) touches(n int, at uint32) bool {
	for i := range max(l[n].Size, 0) {
		if l[n].Addr+uint32(i) == at {
			return l[n].Kind != api.Barrier
		}
	}
	return false
}

// common is the bytes that a and b have.
func (l model) common(a, b int) []uint32 {
	var all []uint32
	for i := range max(l[a].Size, 0) {
		if at := l[a].Addr + uint32(i); l.touches(a, at) && l.touches(b, at) {
			all = append(all, at)
		}
	}
	return all
}

func (l model) meet(a, b int) bool { return len(l.common(a, b)) > 0 }

// rewritten tells whether one between a and b writes a byte that both have.
func (l model) rewritten(a, b int) bool {
	for _, at := range l.common(a, b) {
		for m := a + 1; m < b; m++ {
			if l.writes(m) && l.touches(m, at) {
				return true
			}
		}
	}
	return false
}

// pair is the Lr of n, -1: none.
func (l model) pair(n int) int {
	if !l[n].Paired || l[n].Kind != api.Write {
		return -1
	}
	for a := n - 1; a >= 0; a-- {
		if l[a].Paired && l[a].Kind == api.Read {
			if slices.ContainsFunc(l[a+1:n], func(o api.Op) bool { return o.Paired }) {
				return -1
			}
			return a
		}
	}
	return -1
}

// sort tells whether bits have what n does.
func (l model) sort(n, bits int) bool {
	return l.reads(n) && bits&1 == 1 || l.writes(n) && bits&2 == 2
}

// between tells whether one between a and b is such.
func (l model) between(a, b int, such func(m int) bool) bool {
	for m := a + 1; m < b; m++ {
		if such(m) {
			return true
		}
	}
	return false
}

// rule tells whether that rule holds of a and b.
func (l model) rule(n, a, b int) bool {
	x, y := l[a], l[b]
	switch n {
	case 1:
		return l.writes(b) && l.meet(a, b)
	case 2:
		return l.reads(a) && l.reads(b) && l.meet(a, b) && !l.rewritten(a, b)
	case 3:
		return (x.Kind == api.Both || x.Paired && l.writes(a)) && l.reads(b) && l.meet(a, b)
	case 4:
		return l.between(a, b, func(m int) bool { return l[m].Kind == api.Barrier && l.sort(a, l[m].Pred) && l.sort(b, l[m].Succ) })
	case 5:
		return x.Aq
	case 6:
		return y.Rl
	case 7:
		return (x.Aq || x.Rl) && (y.Aq || y.Rl)
	case 8:
		return l.pair(b) == a
	case 9:
		return slices.Contains(y.AddrDeps, a)
	case 10:
		return slices.Contains(y.DataDeps, a)
	case 11:
		return l.writes(b) && slices.Contains(y.Ctrl, a)
	case 12:
		return l.reads(b) && l.between(a, b, func(m int) bool {
			on := slices.Contains(l[m].AddrDeps, a) || slices.Contains(l[m].DataDeps, a)
			return on && l.writes(m) && l.meet(m, b) && !l.rewritten(m, b)
		})
	}
	return l.writes(b) && l.between(a, b, func(m int) bool { return slices.Contains(l[m].AddrDeps, a) })
}

const rules = 13

// why is the first rule, 0: none.
func (l model) why(a, b int) int {
	if a >= b || l[a].Kind == api.Barrier || l[b].Kind == api.Barrier {
		return 0
	}
	for n := 1; n <= rules; n++ {
		if l.rule(n, a, b) {
			return n
		}
	}
	return 0
}

// check holds all calls against the model, and counts the rules.
func check(t *testing.T, l []api.Op) (count [rules + 1]int) {
	t.Helper()
	of, p, m := ppo.Of(l), ppo.Pairs(l), model(l)
	if len(of) != len(l) || len(p) != len(l) {
		t.Fatal(len(of), len(p), "of", len(l))
	}
	for a := range l {
		if want := m.pair(a); p[a] != want {
			t.Fatalf("pair %d: %d, not %d, of %+v", a, p[a], want, l)
		}
		var want []int
		for b := range l {
			why := m.why(a, b)
			if got := ppo.Why(l, a, b); got != why {
				t.Fatalf("%d and %d: %d, not %d, of %+v", a, b, got, why, l)
			}
			if why != 0 {
				want = append(want, b)
			}
			count[why]++
		}
		if !slices.Equal(of[a], want) {
			t.Fatalf("%d: %v, not %v, of %+v", a, of[a], want, l)
		}
	}
	return count
}

// picks is numbers without a pattern, the same at each run.
type picks uint64

// below is the next one, less than n.
func (p *picks) below(n int) int {
	*p = *p*6364136223846793005 + 1442695040888963407
	return int(uint64(*p)>>33) % n
}

// once tells of one in so many.
func (p *picks) once(n int) bool { return p.below(n) == 0 }

// places is a few places, most of them ahead of n.
func (p *picks) places(n, rare int) []int {
	var l []int
	for p.once(rare) {
		l = append(l, p.below(n+3)-1)
	}
	return l
}

// op is an operation that may be, or one that may not, to stand at place n: rare is how seldom it has anything beside its bytes.
func (p *picks) op(n, rare int) api.Op {
	size := 1 << p.below(3)
	o := api.Op{Kind: 1 + p.below(4), Size: size, Addr: uint32(p.below(16)) &^ uint32(size-1), Paired: p.once(rare), Aq: p.once(2 * rare), Rl: p.once(2 * rare)}
	if p.once(2) {
		o.Kind = 1 + p.below(2)
	}
	if o.Kind == api.Barrier {
		o = api.Op{Kind: api.Barrier, Pred: p.below(4), Succ: p.below(4), Paired: p.once(20)}
	}
	if p.once(12) {
		o.Size, o.Addr = p.below(12)-2, uint32(p.below(24)-8)
	}
	if p.once(30) {
		o.Kind = p.below(9) - 2
	}
	o.AddrDeps, o.DataDeps, o.Ctrl = p.places(n, rare), p.places(n, rare), p.places(n, rare)
	return o
}

func (p *picks) ops(n, rare int) []api.Op {
	var l []api.Op
	for i := range n {
		l = append(l, p.op(i, rare))
	}
	return l
}

func TestModel(t *testing.T) { // P13.1, P13.2: lists of all sorts, against the chapter's words
	p := picks(13)
	var sum [rules + 1]int
	for n := range 1200 {
		for i, c := range check(t, p.ops(n%17, []int{2, 4, 8, 16}[n%4])) {
			sum[i] += c
		}
	}
	if slices.Min(sum[:]) < 50 {
		t.Error("the lists have too little in them", sum)
	}
}

func TestModelLong(t *testing.T) { // P13.1, P13.2: lists in which much lies between
	p := picks(31)
	for range 12 {
		check(t, p.ops(60, 40))
	}
}

func TestBeginnings(t *testing.T) { // P13.1: what comes behind b says nothing
	p := picks(5)
	for range 40 {
		l := p.ops(20, 6)
		for n := range l {
			a := p.below(n + 1)
			if ppo.Why(l, a, n) != ppo.Why(l[:n+1], a, n) || !slices.Equal(ppo.Pairs(l)[:n], ppo.Pairs(l[:n])) {
				t.Fatal(a, n)
			}
		}
	}
}

// fuzzed is an operation of seven bytes.
func fuzzed(b []byte) api.Op {
	o := api.Op{Kind: int(b[0] & 7), Size: int(b[1]&15) - 2, Addr: uint32(int32(int8(b[2]))), Pred: int(b[3] & 3), Succ: int(b[3] >> 2 & 3)}
	o.Paired, o.Aq, o.Rl = b[0]&8 != 0, b[0]&16 != 0, b[0]&32 != 0
	o.AddrDeps, o.DataDeps, o.Ctrl = []int{int(b[4])}, []int{int(b[5])}, []int{int(b[6])}
	return o
}

func FuzzRules(f *testing.F) { // P13.1, P13.2, P0.1
	f.Add([]byte{1, 6, 0, 0, 9, 9, 9, 2, 6, 4, 0, 9, 0, 9, 1, 6, 4, 0, 9, 9, 9})
	f.Fuzz(func(t *testing.T, b []byte) {
		var l []api.Op
		for ; len(b) >= 7 && len(l) < 24; b = b[7:] {
			l = append(l, fuzzed(b))
		}
		check(t, l)
	})
}
