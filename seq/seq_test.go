package seq_test

import (
	"math"
	"slices"
	"testing"

	"corral/api"
	"corral/hart"
	"corral/mem"
	"corral/pte"
	"corral/seq"
)

func TestNew(t *testing.T) { // P11.1
	for harts := 1; harts <= api.MaxHarts; harts++ {
		words := []uint32{1, 2, 3}
		m := made(t, harts, 64, words...)
		words[0] = 9
		if m.Now() != 0 {
			t.Error(harts, m.Now())
		}
		want, _ := mem.New(64, 1, 2, 3)
		same(t, m, want)
		for h := -1; h <= api.MaxHarts+1; h++ {
			one, there := m.Hart(h), h >= 0 && h < harts
			if (one != nil) != there || m.Waits(h) {
				t.Error(harts, h)
			}
			if there && look(one) != look(hart.New(h, 64)) {
				t.Errorf("%d of %d: %+v", h, harts, look(one))
			}
		}
	}
}

func TestNewWrong(t *testing.T) { // P11.1: the count of harts ahead of what mem.New says
	for _, x := range []struct {
		harts, bytes, words int
		want                error
	}{
		{0, 64, 0, api.ErrRange}, {-1, 64, 0, api.ErrRange}, {api.MaxHarts + 1, 64, 0, api.ErrRange},
		{math.MinInt, 64, 0, api.ErrRange}, {math.MaxInt, 64, 0, api.ErrRange},
		{0, 64, 17, api.ErrRange}, {5, 16, 5, api.ErrRange},
		{1, 0, 0, api.ErrRange}, {1, 15, 0, api.ErrRange}, {1, 17, 0, api.ErrRange}, {1, -16, 0, api.ErrRange},
		{1, room + 16, 0, api.ErrRange}, {1, 8, 9, api.ErrRange},
		{1, 16, 5, api.ErrMany}, {4, room, room/4 + 1, api.ErrMany},
		{1, 16, 4, nil}, {4, room, room / 4, nil},
	} {
		m, err := seq.New(x.harts, x.bytes, make([]uint32, x.words)...)
		if err != x.want || (m != nil) != (x.want == nil) {
			t.Error(x, m, err)
		}
	}
}

func TestExample(t *testing.T) { // P11.1, P11.2: the chapter's
	m := made(t, 1, 128, code(t, "addi x1, x0, 5", "sw x1, 64(x0)")...)
	l := m.Run(0, 0)
	want := []api.Event{
		{Kind: api.Retired, Word: 0x00500093, FAt: 1, At: 2},
		{Kind: api.Retired, PC: 4, Word: 0x04102023, FPA: 4, PA: 64, FAt: 3, At: 4},
	}
	if !slices.EqualFunc(l, want, equal) || load(t, m, 64) != 5 || m.Now() != 4 {
		t.Errorf("%+v %d", l, m.Now())
	}
}

func TestRun(t *testing.T) { // P11.2: as its Steps, one after the other, but those that are false
	sets := [][]int{nil, {0}, {1, 0, 1, 2, 0, 0, 2, 2, 1}, {-1, 3, 4, math.MaxInt, math.MinInt}, {0, 7, 1, -3, 2, 2}}
	for _, picks := range sets {
		prog := code(t, "csrrs x1, 0xf14, x0", "amoadd.w x2, x1, (x3)", "wfi")
		one, other := made(t, 3, 64, prog...), made(t, 3, 64, prog...)
		var want []api.Event
		for _, h := range picks {
			if e, is := other.Step(h); is {
				want = append(want, e)
			}
		}
		given := slices.Clone(picks)
		if l := one.Run(given...); !slices.EqualFunc(l, want, equal) || one.Now() != other.Now() || !slices.Equal(given, picks) {
			t.Errorf("%v: %+v, not %+v", picks, l, want)
		}
		same(t, one, other.Memory())
		for h := range 3 {
			if look(one.Hart(h)) != look(other.Hart(h)) || one.Waits(h) != other.Waits(h) {
				t.Error(picks, h)
			}
		}
	}
}

func TestNoStep(t *testing.T) { // P11.1: of no such hart, and of one that waits: nothing, and no time
	m := taken(t, lines(t, "wfi"), machine(), machine())
	must(t, m, 1)
	now, memory := m.Now(), m.Memory()
	for _, h := range []int{-1, 1, 2, 3, 4, math.MaxInt, math.MinInt} {
		if e, is := m.Step(h); is || !equal(e, api.Event{}) || m.Now() != now {
			t.Errorf("%d: %+v %v", h, e, is)
		}
		if l := m.Run(h, h); len(l) != 0 || m.Now() != now {
			t.Errorf("%d: %+v", h, l)
		}
	}
	same(t, m, memory)
	if e := must(t, m, 0); e.At != now+2 {
		t.Errorf("%+v", e)
	}
}

func TestCopies(t *testing.T) { // P11.2: what is done to a copy is not done to the machine, nor the other way round
	m := taken(t, lines(t, "sw x1, 0(x2)", "addi x1, x1, 1"), machine(7, data))
	h, memory := m.Hart(0), m.Memory()
	was := look(h)
	h.Trap(1, 2, 3)
	h.Bell(true)
	memory.Store(begin, 4, 0)
	memory.Store(data, 4, 99)
	if look(m.Hart(0)) != was || load(t, m, data) != 0 {
		t.Error("the machine was changed")
	}
	h, memory = m.Hart(0), m.Memory()
	m.Run(0, 0)
	if v, _ := memory.Load(data, 4); v != 0 || look(h) != was {
		t.Error("a copy was changed")
	}
	if load(t, m, data) != 7 || m.Hart(0).X(1) != 8 {
		t.Error("the steps were not done")
	}
}

// spoil writes into all of a list of entries, spare room too.
func spoil(l []api.Pte) {
	l = l[:cap(l)]
	for i := range l {
		l[i] = api.Pte{Addr: 1, Value: 2, Old: 3, At: 4, Wrote: true}
	}
}

func TestLists(t *testing.T) { // P0.4: lists of events are new memory, spare room too
	start := func() *seq.Machine {
		s := user(7, data)
		s.satp = paged
		m := lines(t, "sw x1, 0(x2)", "lw x3, 0(x2)", "sw x1, 4(x2)")
		return taken(t, tables(m), s)
	}
	one, other := start(), start()
	picks := []int{0, 0, 0}
	got, want := one.Run(picks...), other.Run(picks...)
	spoil(got[0].FWalk)
	spoil(got[1].Walk)
	got[0].Walk = append(got[0].Walk, api.Pte{})
	_ = append(got[:1], api.Event{})
	if !equal(api.Event{FWalk: got[2].FWalk, Walk: got[2].Walk}, api.Event{FWalk: want[2].FWalk, Walk: want[2].Walk}) || !slices.Equal(got[0].Walk[:2], want[0].Walk) {
		t.Errorf("%+v", got)
	}
	again := start()
	e, _ := again.Step(0)
	spoil(e.FWalk)
	if !slices.Equal(e.Walk, want[0].Walk) {
		t.Errorf("%+v", e)
	}
	spoil(e.Walk)
	if l := again.Run(0, 0); !slices.EqualFunc(l, want[1:], equal) {
		t.Errorf("%+v", l)
	}
	if v := load(t, again, table+4*2); v != pte.Make(2, pte.V, pte.R, pte.W, pte.X, pte.U, pte.A, pte.D) {
		t.Errorf("%x", v)
	}
}
