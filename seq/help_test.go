package seq_test

import (
	"slices"
	"strconv"
	"testing"

	"corral/api"
	"corral/asm"
	"corral/hart"
	"corral/mem"
	"corral/pte"
	"corral/seq"
)

// Where things lie in a test's memory: what harts begin by is in page 0, what they do in page 1, what they read and write in page 2; the tables are in pages 8 and 9.
const (
	room   = 65536
	seats  = 0x400
	begin  = 0x1000
	vector = 0x1800
	data   = 0x2000
	root   = 0x8000
	table  = 0x9000
	paged  = 0x80000008 // satp of a table in page 8
	bell   = api.Doorbell
)

// code is the words of lines.
func code(t *testing.T, lines ...string) []uint32 {
	t.Helper()
	l, err := asm.Program(lines...)
	if err != nil {
		t.Fatal(lines, err)
	}
	return l
}

// made is a machine.
func made(t *testing.T, harts, bytes int, words ...uint32) *seq.Machine {
	t.Helper()
	m, err := seq.New(harts, bytes, words...)
	if err != nil {
		t.Fatal(err)
	}
	return m
}

// image is what a memory has at its beginning.
type image [room / 4]uint32

// put is words from an address on.
func (m *image) put(addr uint32, words ...uint32) { copy(m[addr/4:], words) }

// seat is how a hart is when a test begins; x are x1, x2 ...
type seat struct {
	mode      int
	pc        uint32
	satp, mie uint32
	enabled   bool
	x         [8]uint32
}

// machine and user are harts at begin with these registers.
func machine(x ...uint32) seat { return seated(api.Machine, x) }

func user(x ...uint32) seat { return seated(api.User, x) }

func seated(mode int, x []uint32) seat {
	s := seat{mode: mode, pc: begin}
	copy(s.x[:], x)
	return s
}

// words is what the start reads of a seat: Satp, Mstatus, Mie, Mtvec, Mepc, then x1, x2 ...
func (s seat) words() []uint32 {
	status := uint32(s.mode) << 11
	if s.enabled {
		status |= 0x80
	}
	return append([]uint32{s.satp, status, s.mie, vector, s.pc}, s.x[:]...)
}

// starts is lines by which each hart takes its seat.
func starts() []string {
	controls := []int{api.Satp, api.Mstatus, api.Mie, api.Mtvec, api.Mepc}
	l := []string{"csrrs x31, 0xf14, x0", "slli x31, x31, 7"}
	at := seats
	for _, n := range controls {
		l = append(l, "lw x30, "+strconv.Itoa(at)+"(x31)", "csrrw x0, 0x"+strconv.FormatInt(int64(n), 16)+", x30")
		at += 4
	}
	for r := 1; r <= 8; r++ {
		l = append(l, "lw x"+strconv.Itoa(r)+", "+strconv.Itoa(at)+"(x31)")
		at += 4
	}
	return append(l, "addi x30, x0, 0", "addi x31, x0, 0", "mret")
}

// taken is a machine of that memory, whose harts have taken these seats.
func taken(t *testing.T, m image, l ...seat) *seq.Machine {
	t.Helper()
	lines := starts()
	m.put(0, code(t, lines...)...)
	for h, s := range l {
		m.put(seats+uint32(h)*128, s.words()...)
	}
	out := made(t, len(l), room, m[:]...)
	for h, s := range l {
		out.Run(slices.Repeat([]int{h}, len(lines))...)
		if one := out.Hart(h); one.PC() != s.pc || one.Mode() != s.mode || one.X(8) != s.x[7] {
			t.Fatal(h, one.PC(), one.Mode(), one.X(8))
		}
	}
	return out
}

// lines is a memory whose harts do these lines from begin on.
func lines(t *testing.T, l ...string) (m image) {
	t.Helper()
	m.put(begin, code(t, l...)...)
	return m
}

// must is a step that is done.
func must(t *testing.T, m *seq.Machine, h int) api.Event {
	t.Helper()
	e, is := m.Step(h)
	if !is {
		t.Fatal("no step of hart", h)
	}
	return e
}

// load is a word of memory.
func load(t *testing.T, m *seq.Machine, addr uint32) uint32 {
	t.Helper()
	v, is := m.Memory().Load(addr, 4)
	if !is {
		t.Fatal("no word at", addr)
	}
	return v
}

// equal tells whether two events are one, to the last time.
func equal(a, b api.Event) bool {
	return a.Kind == b.Kind && a.PC == b.PC && a.Word == b.Word && a.FPA == b.FPA && a.PA == b.PA &&
		a.Load == b.Load && a.Cause == b.Cause && a.Tval == b.Tval && a.Done == b.Done && a.FAt == b.FAt && a.At == b.At &&
		slices.Equal(a.FWalk, b.FWalk) && slices.Equal(a.Walk, b.Walk)
}

// state is all that can be told of a hart.
type state struct {
	pc   uint32
	mode int
	x    [32]uint32
	all  [10]uint32
}

func look(h *hart.Hart) state {
	s := state{pc: h.PC(), mode: h.Mode()}
	copy(s.x[:], h.Regs())
	copy(s.all[:], h.All())
	return s
}

// does holds that the next step of hart h is this event, that the hart is then as the event makes it, and that memory differs by these writes alone.
func does(t *testing.T, m *seq.Machine, h int, want api.Event, writes ...api.Pte) {
	t.Helper()
	one, memory := m.Hart(h), m.Memory()
	for _, w := range writes {
		memory.Store(w.Addr, 4, w.Value)
	}
	if _, err := one.Replay(want); err != nil {
		t.Errorf("no step: %+v", want)
	}
	if e, is := m.Step(h); !is || !equal(e, want) {
		t.Errorf("%v %+v\n not %+v", is, e, want)
	}
	if m.Now() != want.At {
		t.Error("the time is", m.Now(), "not", want.At)
	}
	if got := look(m.Hart(h)); got != look(one) {
		t.Errorf("%+v\n not %+v", got, look(one))
	}
	if !m.Memory().Same(memory) {
		t.Errorf("memory is another one behind %+v", want)
	}
}

// tables is a memory in which User has every page where it lies, for all, marked; and the doorbells.
func tables(m image) image {
	m.put(root, pte.Make(table>>12, pte.V))
	m.put(root+256*4, pte.Make(bell>>12, pte.V, pte.R, pte.W, pte.U, pte.A, pte.D))
	for i := range uint32(16) {
		m.put(table+4*i, pte.Make(i, pte.V, pte.R, pte.W, pte.X, pte.U, pte.A, pte.D))
	}
	return m
}

// same holds that a memory is this one.
func same(t *testing.T, m *seq.Machine, want *mem.Memory) {
	t.Helper()
	if !m.Memory().Same(want) {
		t.Error("memory was changed")
	}
}
