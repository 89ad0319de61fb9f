package hart

import (
	"testing"

	"corral/api"
)

// No step of a hart leads to a place that is no multiple of four: the test puts it there.
func TestMisalignedPC(t *testing.T) { // P10.2
	for _, pc := range []uint32{1, 2, 3, 0x102, 65534, 0x40000002, 0xFFFFFFFF} {
		for _, bytes := range []int{0, 65536} {
			for _, satp := range []uint32{0, 0x80000001} {
				checkMisaligned(t, pc, bytes, satp)
			}
		}
	}
}

func checkMisaligned(t *testing.T, pc uint32, bytes int, satp uint32) {
	t.Helper()
	h := New(0, bytes)
	h.Set(api.Satp, satp)
	h.Set(api.Mtvec, 0x44)
	if satp != 0 {
		h.Return()
	}
	h.pc = pc
	was := *h
	right := api.Event{Kind: api.Trapped, PC: pc, Cause: api.InstMisaligned, Tval: pc}
	wrong := make([]api.Event, 6)
	for n := range wrong {
		wrong[n] = right
	}
	wrong[0].FPA = pc
	wrong[1].Word = 0x13
	wrong[2].FWalk = []api.Pte{{Addr: 0x1000}}
	wrong[3].Cause = api.InstAccess
	wrong[4].Tval = pc + 1
	wrong[5] = api.Event{Kind: api.Retired, PC: pc, FPA: pc, Word: 0x13}
	for n, e := range wrong {
		if f, err := h.Replay(e); err != api.ErrTrace || f != (Effect{}) || *h != was {
			t.Error(pc, n, f, err)
		}
	}
	want := was
	want.pc = want.Trap(api.InstMisaligned, pc, pc)
	if f, err := h.Replay(right); f != (Effect{}) || err != nil || *h != want || h.PC() != 0x44 {
		t.Error(pc, f, err, *h)
	}
}
