package ppo_test

import (
	"slices"
	"testing"

	"corral/api"
	"corral/asm"
	"corral/dep"
	"corral/ppo"
)

// least holds that all that has to stay in order in l has to in more, where place tells where an operation went.
func least(t *testing.T, l, more []api.Op, place func(n int) int) {
	t.Helper()
	of, grown := ppo.Of(l), ppo.Of(more)
	for a := range l {
		for _, b := range of[a] {
			if !slices.Contains(grown[place(a)], place(b)) {
				t.Fatalf("%d and %d: of %+v\n not of %+v", a, b, l, more)
			}
		}
	}
}

func same(n int) int { return n }

func TestMoreMarks(t *testing.T) { // P13.4: more Deps, more Aq and Rl
	p := picks(4)
	for range 1500 {
		l := p.ops(2+p.below(12), 8)
		more := copied(l)
		n := p.below(len(l))
		o := &more[n]
		switch p.below(5) {
		case 0:
			o.Aq = true
		case 1:
			o.Rl = true
		case 2:
			o.AddrDeps = append(o.AddrDeps, p.below(n+1))
		case 3:
			o.DataDeps = append(o.DataDeps, p.below(n+1))
		case 4:
			o.Ctrl = append(o.Ctrl, p.below(n+1))
		}
		least(t, l, more, same)
	}
}

// moved is places as they are when one was put in at that place.
func moved(places []int, at int) []int {
	l := slices.Clone(places)
	for i, n := range l {
		if n >= at {
			l[i]++
		}
	}
	return l
}

func TestMoreBarriers(t *testing.T) { // P13.4: more barriers
	p := picks(44)
	for range 1500 {
		l := p.ops(2+p.below(12), 8)
		at := p.below(len(l) + 1)
		more := slices.Insert(copied(l), at, barrier(p.below(4), p.below(4)))
		for i := range more {
			o := &more[i]
			o.AddrDeps, o.DataDeps, o.Ctrl = moved(o.AddrDeps, at), moved(o.DataDeps, at), moved(o.Ctrl, at)
		}
		least(t, l, more, func(n int) int { return moved([]int{n}, at)[0] })
	}
}

func TestStrongerBarriers(t *testing.T) { // P13.4: barriers that keep more
	p := picks(444)
	for range 500 {
		l := p.ops(2+p.below(12), 8)
		more := copied(l)
		for n := range more {
			if more[n].Kind == api.Barrier {
				more[n].Pred |= p.below(4)
				more[n].Succ |= p.below(4)
			}
		}
		least(t, l, more, same)
	}
}

// done is the operations of lines, all of them done, at these addresses.
func done(t *testing.T, at []uint32, lines ...string) []api.Op {
	t.Helper()
	words, err := asm.Program(lines...)
	if err != nil {
		t.Fatal(err)
	}
	var l []dep.Item
	for n, w := range words {
		l = append(l, dep.Item{Word: w, PA: at[n], Done: true})
	}
	return dep.Ops(l)
}

func TestLines(t *testing.T) { // P13.1: instructions, by what package dep tells of them
	at := []uint32{0, 4, 8, 12}
	why(t, 0, done(t, at, "lw x1, 0(x0)", "lw x2, 4(x0)")...)
	why(t, 9, done(t, at, "lw x1, 0(x0)", "lw x2, 4(x1)")...)
	why(t, 10, done(t, at, "lw x1, 0(x0)", "sw x1, 4(x0)")...)
	why(t, 9, done(t, at, "lw x1, 0(x0)", "add x2, x1, x3", "lw x2, 4(x2)")...)
	why(t, 0, done(t, at, "lw x1, 0(x0)", "bne x1, x0, 8", "lw x2, 4(x0)")...)
	why(t, 11, done(t, at, "lw x1, 0(x0)", "bne x1, x0, 8", "sw x2, 4(x0)")...)
	why(t, 4, done(t, at, "sw x1, 0(x0)", "fence 1, 2", "lw x2, 4(x0)")...)
	why(t, 0, done(t, at, "sw x1, 0(x0)", "fence 2, 1", "lw x2, 4(x0)")...)
	why(t, 5, done(t, at, "lr.w.aq x1, (x3)", "lw x2, 4(x0)")...)
	why(t, 6, done(t, at, "lw x1, 0(x0)", "sc.w.rl x2, x3, (x4)")...)
	why(t, 8, done(t, at, "lr.w x1, (x3)", "sc.w x2, x3, (x4)")...)
	why(t, 1, done(t, []uint32{0, 0}, "lr.w x1, (x3)", "sc.w x2, x3, (x3)")...)
	why(t, 3, done(t, []uint32{0, 0, 0}, "amoadd.w x1, x2, (x3)", "sb x1, 0(x3)", "lw x1, 0(x3)")...)
	why(t, 12, done(t, []uint32{0, 4, 4}, "lw x1, 0(x0)", "sw x1, 4(x0)", "lw x2, 4(x0)")...)
	why(t, 13, done(t, at, "lw x1, 0(x0)", "lw x2, 0(x1)", "sw x3, 8(x0)")...)
}
