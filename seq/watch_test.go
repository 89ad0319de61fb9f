package seq_test

import (
	"testing"

	"corral/alu"
	"corral/api"
	"corral/hart"
	"corral/isa"
	"corral/mem"
	"corral/seq"
	"corral/walk"
)

// deed is a step that was done: whose, what, and what it did to memory.
type deed struct {
	h      int
	event  api.Event
	op     int
	effect hart.Effect
	asleep bool // whether a Wfi began to wait
	rang   int  // the hart that was rung and listened, -1: none
}

// watcher sees a machine's events, and nothing else of it, and holds them against what the chapter says: its own harts take them one by one, its own memory has what they wrote.
type watcher struct {
	t      *testing.T
	m      *seq.Machine
	harts  []*hart.Hart
	memory *mem.Memory
	now    int
	log    []deed
	seen   counts
}

// watch is a watcher of a machine that was just made.
func watch(t *testing.T, m *seq.Machine, harts int) *watcher {
	w := &watcher{t: t, m: m, memory: m.Memory()}
	for h := range harts {
		w.harts = append(w.harts, hart.New(h, room))
	}
	return w
}

// waits goes back from the end to the hart's last step.
func (w *watcher) waits(h int) bool {
	for i := len(w.log) - 1; i >= 0; i-- {
		if d := w.log[i]; d.rang == h {
			return false
		} else if d.h == h {
			return d.asleep
		}
	}
	return false
}

// reserved goes back from the end to the hart's last Lr, and tells whether these bytes are reserved since.
func (w *watcher) reserved(h int, pa uint32) bool {
	for i := len(w.log) - 1; i >= 0; i-- {
		d := w.log[i]
		if d.h != h && d.writes(pa) {
			return false
		}
		if d.h != h {
			continue
		}
		if d.event.Kind != api.Retired || d.op == api.Sc || d.op == api.Mret {
			return false
		}
		if d.op == api.Lr {
			return d.event.PA == pa
		}
	}
	return false
}

// writes tells whether the step wrote one of the four bytes at pa.
func (d deed) writes(pa uint32) bool {
	for _, l := range [][]api.Pte{d.event.FWalk, d.event.Walk} {
		for _, e := range l {
			if e.Wrote && e.Addr == pa {
				return true
			}
		}
	}
	k := d.effect.Kind
	return (k == api.Write || k == api.Both) && int64(d.effect.Addr) < int64(pa)+4 && int64(d.effect.Addr)+int64(d.effect.Size) > int64(pa)
}

// time holds that a stamp is the next time.
func (w *watcher) time(at int) {
	w.t.Helper()
	w.now++
	if at != w.now {
		w.t.Fatalf("a time is %d, not %d", at, w.now)
	}
}

// entries holds that these were what memory had, and marked just where they had to be.
func (w *watcher) entries(h *hart.Hart, l []api.Pte, va uint32, access int) {
	w.t.Helper()
	for i, e := range l {
		w.time(e.At)
		had, _ := w.memory.Load(e.Addr, 4)
		plain := append([]api.Pte{}, l[:i]...)
		plain = append(plain, api.Pte{Addr: e.Addr, Value: had})
		next := walk.Next(h.Satp(), h.Mode(), va, access, room, plain...)
		want := api.Pte{Addr: e.Addr, Value: had, At: e.At}
		if next.Kind == walk.Mark {
			want = api.Pte{Addr: e.Addr, Value: next.Value, Old: had, At: e.At, Wrote: true}
			w.memory.Store(e.Addr, 4, next.Value)
			w.seen.marks++
		}
		if e != want {
			w.t.Fatalf("an entry is %+v, not %+v", e, want)
		}
	}
}

// word holds that the event has the word that memory has, if one was to be read.
func (w *watcher) word(h *hart.Hart, e api.Event) {
	w.t.Helper()
	at := walk.Next(h.Satp(), h.Mode(), e.PC, api.Fetch, room, e.FWalk...)
	v, is := w.memory.Load(at.PA, 4)
	if is = is && at.Kind == walk.Here; is {
		w.time(e.FAt)
	}
	if !is && e.FAt != 0 || is && e.Word != v {
		w.t.Fatalf("the word is not what memory has: %+v", e)
	}
}

// bell is what the doorbell at pa says.
func (w *watcher) bell(pa uint32) uint32 {
	if h := (int64(pa) - api.Doorbell) / 4; h < int64(len(w.harts)) {
		return w.harts[h].All()[mip] / 8
	}
	return 0
}

// read holds that the event has what was there to be read, and that an Sc was done where it might be.
func (w *watcher) read(h int, i api.Inst, e api.Event) {
	w.t.Helper()
	want, done := uint32(0), false
	switch retired := e.Kind == api.Retired; {
	case !retired:
	case i.Op == api.Sc:
		done = w.reserved(h, e.PA)
		w.seen.sc(done)
	case isa.Kind(i.Op) == 4, isa.Kind(i.Op) == 6:
		v, is := w.memory.Load(e.PA, alu.Size(i.Op))
		if want = v; !is {
			want = w.bell(e.PA)
			w.seen.bellReads++
		}
	case i.CSR == api.Mip:
		want = w.harts[h].All()[mip]
		w.seen.mipReads++
	}
	if e.Load != want || e.Done != done {
		w.t.Fatalf("%x was read, %v done, not %x, %v: %+v", e.Load, e.Done, want, done, e)
	}
}

// step holds that the next step of hart h is as the chapter says.
func (w *watcher) step(h int) {
	w.t.Helper()
	e, is := w.m.Step(h)
	if there := h >= 0 && h < len(w.harts); !there || w.waits(h) {
		if is || !equal(e, api.Event{}) || w.m.Now() != w.now {
			w.t.Fatalf("a step of hart %d: %+v", h, e)
		}
		return
	}
	if !is {
		w.t.Fatalf("no step of hart %d", h)
	}
	one := w.harts[h]
	w.seen.event(e, one.Mode())
	d := deed{h: h, event: e, rang: -1}
	var i api.Inst
	if _, pending := one.Pending(); pending != (e.Kind == api.Interrupted) {
		w.t.Fatalf("interrupts: %+v", e)
	} else if !pending {
		w.entries(one, e.FWalk, e.PC, api.Fetch)
		w.word(one, e)
		i = w.inst(one, e)
	}
	d.op = i.Op
	w.read(h, i, e)
	w.time(e.At)
	effect, err := one.Replay(e)
	if err != nil {
		w.t.Fatalf("no step: %+v", e)
	}
	d.effect = effect
	w.done(&d)
	w.log = append(w.log, d)
	w.compare()
}

// inst is the event's instruction, whose entries are held.
func (w *watcher) inst(h *hart.Hart, e api.Event) api.Inst {
	i, _ := isa.Decode(e.Word)
	access := api.Store
	if isa.Kind(i.Op) == 4 {
		access = api.Load
	}
	w.entries(h, e.Walk, h.X(i.Rs1)+i.Imm, access)
	return i
}

// done is what the step does beside its hart.
func (w *watcher) done(d *deed) {
	if d.effect.Wait {
		all := w.harts[d.h].All()
		d.asleep = all[2]&all[mip] == 0
		w.seen.wait(d.asleep)
	}
	if d.effect.Kind != api.Write && d.effect.Kind != api.Both {
		return
	}
	if d.effect.Addr < room {
		w.memory.Store(d.effect.Addr, d.effect.Size, d.effect.Value)
		return
	}
	n := int(d.effect.Addr-api.Doorbell) / 4
	if n >= len(w.harts) {
		w.seen.nobody++
		return
	}
	w.harts[n].Bell(d.effect.Value != 0)
	if d.effect.Value != 0 && w.harts[n].All()[2] != 0 {
		d.rang = n
		w.seen.wake(w.waits(n))
	}
}

// compare holds that the machine is as its events tell.
func (w *watcher) compare() {
	w.t.Helper()
	for h, one := range w.harts {
		if got := look(w.m.Hart(h)); got != look(one) {
			w.t.Fatalf("hart %d: %+v, not %+v", h, got, look(one))
		}
		if w.m.Waits(h) != w.waits(h) {
			w.t.Fatalf("hart %d: waits %v", h, w.m.Waits(h))
		}
	}
	if !w.m.Memory().Same(w.memory) || w.m.Now() != w.now {
		w.t.Fatal("memory, or the time", w.m.Now(), w.now)
	}
}

// counts is how often what came about.
type counts struct {
	kinds                               [4]int
	causes                              [16]int
	ops                                 [api.Maxu + 1]int
	user                                int
	marks, scDone, scNot                int
	bellReads, mipReads, nobody         int
	asleep, awake, wakes, ringsOfAwakes int
}

func (c *counts) event(e api.Event, mode int) {
	c.kinds[e.Kind]++
	if e.Kind == api.Trapped {
		c.causes[e.Cause]++
	}
	i, _ := isa.Decode(e.Word)
	c.ops[i.Op]++
	if mode == api.User {
		c.user++
	}
}

func (c *counts) sc(done bool) { count(done, &c.scDone, &c.scNot) }

func (c *counts) wait(asleep bool) { count(asleep, &c.asleep, &c.awake) }

func (c *counts) wake(waited bool) { count(waited, &c.wakes, &c.ringsOfAwakes) }

func count(is bool, yes, no *int) {
	if is {
		*yes++
	} else {
		*no++
	}
}

// add is another one's, too.
func (c *counts) add(o counts) {
	for i, n := range o.kinds {
		c.kinds[i] += n
	}
	for i, n := range o.causes {
		c.causes[i] += n
	}
	for i, n := range o.ops {
		c.ops[i] += n
	}
	to, from := c.singles(), o.singles()
	for i := range to {
		*to[i] += *from[i]
	}
}

func (c *counts) singles() []*int {
	return []*int{&c.user, &c.marks, &c.scDone, &c.scNot, &c.bellReads, &c.mipReads, &c.nobody, &c.asleep, &c.awake, &c.wakes, &c.ringsOfAwakes}
}

// check holds that everything came about.
func (c *counts) check(t *testing.T) {
	t.Helper()
	for kind := api.Retired; kind <= api.Interrupted; kind++ {
		if c.kinds[kind] < 100 {
			t.Error("a kind came about seldom", kind, c.kinds[kind])
		}
	}
	for op := api.Lui; op <= api.Maxu; op++ {
		if c.ops[op] == 0 {
			t.Error("an instruction never came about", op)
		}
	}
	for _, cause := range []int{0, 1, 2, 3, 4, 5, 6, 7, 8, 11, 12, 13, 15} {
		if c.causes[cause] == 0 {
			t.Error("a cause never came about", cause)
		}
	}
	for i, n := range c.singles() {
		if *n < 20 {
			t.Error("something came about seldom", i, *n)
		}
	}
}
