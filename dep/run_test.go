package dep_test

import (
	"testing"

	"corral/api"
	"corral/asm"
	"corral/dep"
	"corral/hart"
	"corral/seq"
)

const room = 4096

// told is the items of one hart's events, as what judges them has them, with the effects of each.
func told(t *testing.T, h int, events []api.Event) ([]dep.Item, []hart.Effect) {
	t.Helper()
	one := hart.New(h, room)
	var l []dep.Item
	var effects []hart.Effect
	for _, e := range events {
		effect, err := one.Replay(e)
		if err != nil {
			t.Fatal(e, err)
		}
		l = append(l, dep.Item{Word: e.Word, PA: e.PA, Load: e.Load, Value: effect.Value, Done: e.Done, Trap: e.Kind != api.Retired})
		effects = append(effects, effect)
	}
	return l, effects
}

// events is what a hart of these lines does alone, in so many steps.
func events(t *testing.T, steps int, lines ...string) []api.Event {
	t.Helper()
	words, err := asm.Program(lines...)
	if err != nil {
		t.Fatal(err)
	}
	m, err := seq.New(1, room, words...)
	if err != nil {
		t.Fatal(err)
	}
	return m.Run(make([]int, steps)...)
}

func TestRun(t *testing.T) { // P12.1: operations are the effects of a hart that is run, and nothing else is
	lines := []string{
		"addi x1, x0, 1024", "addi x2, x0, -559", "sw x2, 0(x1)", "sb x2, 9(x1)", "sh x2, 14(x1)", "lb x3, 1(x1)", "lhu x4, 2(x1)",
		"lr.w.aq x5, (x1)", "sc.w.rl x6, x2, (x1)", "sc.w x7, x2, (x1)", "amoadd.w x8, x2, (x1)", "amomax.w.aq.rl x9, x6, (x1)",
		"fence 3, 1", "bne x8, x0, 8", "ebreak", "lw x10, 3(x1)", "csrrs x11, 0x341, x0",
	}
	l, effects := told(t, 0, events(t, 40, lines...))
	ops, places := check(t, l), dep.Places(l)
	for n, effect := range effects {
		if effect.Kind == 0 {
			if places[n] != -1 {
				t.Error(n, places[n])
			}
			continue
		}
		o := ops[places[n]]
		if o.Kind != effect.Kind {
			t.Error(n, o, effect)
		}
		if o.Kind != api.Barrier && (o.Addr != effect.Addr || o.Size != effect.Size || o.Value != effect.Value) {
			t.Error(n, o, effect)
		}
	}
	if len(ops) < 20 {
		t.Error("too little was done", len(ops))
	}
}

func TestLoop(t *testing.T) { // P12.1: a sum of what a loop reads hangs on all of it; the count hangs on nothing
	l, _ := told(t, 0, events(t, 20,
		"addi x1, x0, 3", "lw x2, 1024(x0)", "add x3, x3, x2", "addi x1, x1, -1", "bne x1, x0, -12", "sw x3, 1028(x0)", "beq x2, x3, 4", "sw x1, 1032(x0)", "wfi"))
	ops := dep.Ops(l)
	if len(ops) != 5 || !equal(ops[3], api.Op{Kind: api.Write, Size: 4, Addr: 1028, DataDeps: on(0, 1, 2)}) || !equal(ops[4], api.Op{Kind: api.Write, Size: 4, Addr: 1032, Ctrl: on(0, 1, 2)}) {
		t.Errorf("%+v", ops)
	}
}
