package hart_test

import (
	"math"
	"slices"
	"testing"

	"corral/api"
	"corral/csr"
	"corral/hart"
)

func TestNew(t *testing.T) { // P10.1
	for _, id := range []int{0, 1, 3, 4, 77, -1, math.MaxInt, math.MinInt} {
		for _, bytes := range []int{math.MinInt, -1, 0, 1, 16, room, math.MaxInt} {
			h := hart.New(id, bytes)
			f := csr.New(id)
			if h.PC() != 0 || !slices.Equal(h.Regs(), make([]uint32, 32)) || h.Mode() != api.Machine || !slices.Equal(h.All(), f.All()) {
				t.Error(id, bytes, h.PC(), h.Regs(), h.Mode(), h.All())
			}
		}
	}
}

func TestExamples(t *testing.T) { // P10.2
	h := hart.New(0, room)
	does(t, h, api.Event{Kind: api.Retired, Word: 0x00500093}, none, free{}, 1, 5)
	if h.X(1) != 5 || h.PC() != 4 {
		t.Error(h.X(1), h.PC())
	}
	traps(t, hart.New(0, room), api.Event{Kind: api.Trapped, Cause: api.Illegal})
}

// filled is a hart whose registers are all different.
func filled(t *testing.T) (*hart.Hart, []uint32) {
	x, want := map[int]uint32{}, []uint32{0}
	for r := 1; r < 32; r++ {
		x[r] = 0x9E3779B9 * uint32(r)
		want = append(want, x[r])
	}
	return machine(x).make(t), want
}

func TestRegisters(t *testing.T) { // P10.1
	h, want := filled(t)
	if !slices.Equal(h.Regs(), want) {
		t.Error(h.Regs())
	}
	for i, v := range want {
		if h.X(i) != v {
			t.Error(i, h.X(i))
		}
	}
	for _, i := range []int{-1, -31, -32, 32, 33, 1 << 32, 1<<32 + 1, math.MinInt, math.MinInt + 1, math.MaxInt} {
		if h.X(i) != 0 {
			t.Error(i, h.X(i))
		}
	}
}

func TestRegsAreNewMemory(t *testing.T) { // P10.1, P0.4
	h, want := filled(t)
	a, b := h.Regs(), h.Regs()
	for i := range a {
		a[i] = 0xBAD
	}
	_ = append(a[:3], 1, 2, 3)
	_ = append(a, 4)
	if !slices.Equal(b, want) || !slices.Equal(h.Regs(), want) || h.X(5) != want[5] {
		t.Error(b, h.Regs())
	}
}

func TestClone(t *testing.T) { // P10.1
	h, _ := filled(t)
	was := look(h)
	c := h.Clone()
	if c == h || look(c) != was {
		t.Fatal(look(c))
	}
	must(t, c, retired(c, code(t, "addi x1, x0, 7")))
	must(t, c, trapped(c, 0, api.Illegal, 0))
	c.Set(api.Mscratch, 3)
	c.Bell(true)
	if look(h) != was {
		t.Error("the clone's steps are the hart's", look(h))
	}
	then := look(c)
	must(t, h, retired(h, code(t, "addi x2, x0, 9")))
	h.Set(api.Satp, 5)
	if look(c) != then || c.X(1) != 7 || h.X(2) != 9 {
		t.Error("the hart's steps are the clone's", look(c))
	}
}

func TestCloneHasAsManyBytes(t *testing.T) { // P10.1
	for _, bytes := range []int{4, 8, room} {
		h := hart.New(0, bytes).Clone()
		must(t, h, retired(h, code(t, "jal x0, 4")))
		e := trapped(h, 0, api.InstAccess, 4)
		if bytes == 4 {
			traps(t, h, e)
		} else {
			refuses(t, h, e)
		}
	}
}

func TestPromoted(t *testing.T) { // Ways: what its registers of control do is the hart's
	h := machine(nil).make(t)
	h.Set(api.Mie, 8)
	h.Bell(true)
	if _, is := h.Pending(); is || h.Mode() != api.Machine {
		t.Error("an interrupt that may not come")
	}
	jump(t, h, api.User, 0x200, false)
	if cause, is := h.Pending(); cause != api.SoftInterrupt || !is {
		t.Error(cause, is)
	}
	if _, is := h.Get(api.Mie); is || h.Mode() != api.User {
		t.Error(h.Mode())
	}
}

func TestListsHandedIn(t *testing.T) { // P10.2, P0.4: neither changed nor kept, and nothing behind their length is read
	h := paged(t, api.User)
	back := []api.Pte{table(), {Addr: 0x2000 + 4*3, Value: leafX(3)}, {Addr: 1, Value: 2}, {Addr: 3, Value: 4}}
	data := []api.Pte{table(), {Addr: 0x2000 + 4*4, Value: leafRW(4)}, {Addr: 5, Value: 6}}
	wasBack, wasData := slices.Clone(back), slices.Clone(data)
	e := api.Event{Kind: api.Retired, PC: 0x3000, Word: code(t, "lw x5, 8(x1)"), FPA: 0x3000, FWalk: back[:2], Walk: data[:2], PA: 0x4008, Load: 6}
	must(t, h, e)
	if !slices.Equal(back, wasBack) || !slices.Equal(data, wasData) {
		t.Error(back, data)
	}
	was := look(h)
	clear(back)
	clear(data)
	if look(h) != was {
		t.Error(look(h))
	}
	e.PC, e.FPA = 0x3004, 0x3004
	e.FWalk, e.Walk = wasBack[:1], wasData[:2]
	refuses(t, h, e)
	e.FWalk, e.Walk = wasBack[:2], wasData[:1]
	refuses(t, h, e)
	if !slices.Equal(wasBack[2:], []api.Pte{{Addr: 1, Value: 2}, {Addr: 3, Value: 4}}) {
		t.Error(wasBack)
	}
}
