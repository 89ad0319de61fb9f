package csr_test

import (
	"math"
	"slices"
	"testing"

	"corral/api"
	"corral/csr"
)

const ones = 0xFFFFFFFF

// numbers is the ten registers, as All has them.
func numbers() []int {
	return []int{0x180, 0x300, 0x304, 0x305, 0x340, 0x341, 0x342, 0x343, 0x344, 0xF14}
}

// wrongNumbers is what is no register: beside each of them, past twelve bits, and a register's number but for bits far up.
func wrongNumbers() []int {
	l := []int{math.MinInt, math.MinInt32, -1, 0, 4096, math.MaxInt32, math.MaxInt}
	for _, n := range numbers() {
		l = append(l, -n, n+1<<12, n+1<<32, n-1<<32)
	}
	for n := range 4096 {
		if !slices.Contains(numbers(), n) {
			l = append(l, n)
		}
	}
	return l
}

// words is each bit alone, each bit missing, none and all, and some without a pattern.
func words() []uint32 {
	l := []uint32{0, ones, 0x12345678, 0xDEADBEEF, 0x55555555, 0xAAAAAAAA, 0x1800, 0x1888, 0x1088, 0x888, 0x1808, 0x1880}
	for i := range 32 {
		l = append(l, 1<<i, ^uint32(1<<i))
	}
	return l
}

// statuses is all that Mstatus can be.
func statuses() []uint32 {
	return []uint32{0, 0x8, 0x80, 0x88, 0x1800, 0x1808, 0x1880, 0x1888}
}

// few is causes, values and places for a trap.
func few() []uint32 {
	return []uint32{0, 1, 2, 3, 4, 7, 0x100, 0x102, 0x7FFFFFFF, 0x80000003, 0xFFFFFFFC, ones}
}

// model is a file as the chapter tells of it: a register's bits one by one.
type model struct {
	user bool
	bits map[int]*[32]bool
}

func newModel(hart int) *model {
	m := &model{bits: map[int]*[32]bool{}}
	for _, n := range numbers() {
		m.bits[n] = &[32]bool{}
	}
	m.put(api.Mhartid, uint32(hart))
	return m
}

// clone is a model of its own.
func (m *model) clone() *model {
	c := &model{user: m.user, bits: map[int]*[32]bool{}}
	for n, b := range m.bits {
		one := *b
		c.bits[n] = &one
	}
	return c
}

// put is all of v into register n.
func (m *model) put(n int, v uint32) {
	for i := range 32 {
		m.bits[n][i] = v/(1<<i)%2 == 1
	}
}

// word is register n.
func (m *model) word(n int) uint32 {
	var w uint32
	for i, is := range m.bits[n] {
		if is {
			w += 1 << i
		}
	}
	return w
}

// all is the ten registers.
func (m *model) all() []uint32 {
	var l []uint32
	for _, n := range numbers() {
		l = append(l, m.word(n))
	}
	return l
}

// keeps tells whether register n keeps bit i by itself.
func keeps(n, i int) bool {
	switch n {
	case api.Mstatus:
		return i == 3 || i == 7
	case api.Mie:
		return i == 3
	case api.Mtvec, api.Mepc:
		return i > 1
	case api.Satp:
		return i == 31 || i <= 21
	}
	return true
}

func (m *model) set(n int, v uint32) bool {
	b := m.bits[n]
	if b == nil || m.user || n == api.Mhartid {
		return false
	}
	if n == api.Mip {
		return true
	}
	given := newModel(0)
	given.put(n, v)
	g := given.bits[n]
	for i := range 32 {
		b[i] = g[i] && keeps(n, i)
	}
	if n == api.Mstatus {
		b[11], b[12] = g[11] && g[12], g[11] && g[12]
	}
	return true
}

func (m *model) get(n int) (uint32, bool) {
	if m.bits[n] == nil || m.user {
		return 0, false
	}
	return m.word(n), true
}

func (m *model) bell(on bool) { m.bits[api.Mip][3] = on }

func (m *model) pending() (uint32, bool) {
	if !m.bits[api.Mip][3] || !m.bits[api.Mie][3] || !m.user && !m.bits[api.Mstatus][3] {
		return 0, false
	}
	return 0x80000003, true
}

func (m *model) trap(cause, tval, pc uint32) uint32 {
	m.put(api.Mepc, pc/4*4)
	m.put(api.Mcause, cause)
	m.put(api.Mtval, tval)
	s := m.bits[api.Mstatus]
	s[7], s[3] = s[3], false
	s[11], s[12] = !m.user, !m.user
	m.user = false
	return m.word(api.Mtvec)
}

func (m *model) back() uint32 {
	s := m.bits[api.Mstatus]
	m.user = !s[11] && !s[12]
	s[11], s[12] = false, false
	s[3], s[7] = s[7], true
	return m.word(api.Mepc)
}

// check holds all that f tells against the model.
func check(t *testing.T, f *csr.File, m *model, what string) {
	t.Helper()
	mode := 3
	if m.user {
		mode = 0
	}
	if got := f.Mode(); got != mode {
		t.Fatalf("%s: mode %d, not %d", what, got, mode)
	}
	if got := f.All(); !slices.Equal(got, m.all()) {
		t.Fatalf("%s: registers %#x, not %#x", what, got, m.all())
	}
	if got := f.Satp(); got != m.word(api.Satp) {
		t.Fatalf("%s: Satp %#x, not %#x", what, got, m.word(api.Satp))
	}
	for _, n := range numbers() {
		want, is := m.get(n)
		if got, there := f.Get(n); got != want || there != is {
			t.Fatalf("%s: Get(%#x) is %#x %v, not %#x %v", what, n, got, there, want, is)
		}
	}
	cause, is := m.pending()
	if got, may := f.Pending(); got != cause || may != is {
		t.Fatalf("%s: Pending is %#x %v, not %#x %v", what, got, may, cause, is)
	}
}

// both sets register n of the file and of the model.
func both(t *testing.T, f *csr.File, m *model, n int, v uint32) {
	t.Helper()
	want := m.set(n, v)
	if got := f.Set(n, v); got != want {
		t.Fatalf("Set(%#x, %#x) is %v, not %v", n, v, got, want)
	}
}

// filled is a file, and its model, with something in every register, in Machine.
func filled(t *testing.T) (csr.File, *model) {
	t.Helper()
	f, m := csr.New(0x21), newModel(0x21)
	for i, n := range numbers() {
		if n != api.Mhartid {
			both(t, &f, m, n, 0x80100FF8+uint32(i)<<4)
		}
	}
	f.Bell(true)
	m.bell(true)
	return f, m
}

// states calls f with files in every mode, Mstatus, Mie and Mip that there can be.
func states(t *testing.T, visit func(f csr.File, m *model)) {
	t.Helper()
	for _, status := range statuses() {
		for _, mie := range []uint32{0, 8} {
			for _, on := range []bool{false, true} {
				for _, returned := range []bool{false, true} {
					f, m := filled(t)
					both(t, &f, m, api.Mstatus, status)
					both(t, &f, m, api.Mie, mie)
					f.Bell(on)
					m.bell(on)
					if returned {
						f.Return()
						m.back()
					}
					check(t, &f, m, "a state")
					visit(f, m)
				}
			}
		}
	}
}

func TestExamples(t *testing.T) { // P6.1, P6.2
	f := csr.New(0)
	if !f.Set(api.Mstatus, 0x1808) {
		t.Error("Mstatus is not set")
	}
	if v, is := f.Get(api.Mstatus); v != 0x1808 || !is {
		t.Errorf("Mstatus %#x %v", v, is)
	}
	if !f.Set(api.Mtvec, 7) {
		t.Error("Mtvec is not set")
	}
	if v, is := f.Get(api.Mtvec); v != 4 || !is {
		t.Errorf("Mtvec %#x %v", v, is)
	}
	f.Set(api.Mstatus, 0)
	f.Return()
	if f.Mode() != api.User {
		t.Error("not in User")
	}
	if to := f.Trap(8, 0, 0x100); to != 4 || f.Mode() != api.Machine {
		t.Errorf("goes to %#x in mode %d", to, f.Mode())
	}
	if v, is := f.Get(api.Mepc); v != 0x100 || !is {
		t.Errorf("Mepc %#x %v", v, is)
	}
}

func TestNew(t *testing.T) { // P6.1
	for hart, id := range map[int]uint32{0: 0, 1: 1, 3: 3, 4: 4, 1000: 1000, -1: ones, -2: ones - 1, 1<<32 + 5: 5, math.MaxInt32: 0x7FFFFFFF, math.MinInt32: 0x80000000, math.MaxInt: ones, math.MinInt: 0} {
		f := csr.New(hart)
		if got := f.All(); f.Mode() != api.Machine || !slices.Equal(got, []uint32{0, 0, 0, 0, 0, 0, 0, 0, 0, id}) {
			t.Errorf("New(%d): mode %d, registers %#x", hart, f.Mode(), got)
		}
		check(t, &f, newModel(hart), "a new one")
	}
}

func TestWrongNumbers(t *testing.T) { // P6.1
	f, m := filled(t)
	for _, n := range wrongNumbers() {
		if v, is := f.Get(n); v != 0 || is {
			t.Errorf("Get(%#x) is %#x %v", n, v, is)
		}
		if f.Set(n, ones) || f.Set(n, 0) {
			t.Errorf("Set(%#x) is true", n)
		}
	}
	check(t, &f, m, "behind wrong numbers")
}

func TestSetKeeps(t *testing.T) { // P6.1: at each bit, over what was there, and no other register changes
	f, m := filled(t)
	for _, n := range numbers() {
		for _, first := range []uint32{0, ones} {
			for _, v := range words() {
				both(t, &f, m, n, first)
				check(t, &f, m, "first")
				both(t, &f, m, n, v)
				check(t, &f, m, "then")
			}
		}
	}
}

func TestSetTold(t *testing.T) { // P6.1: what the chapter names, in numbers
	for _, x := range []struct {
		n       int
		v, want uint32
	}{
		{api.Mstatus, ones, 0x1888}, {api.Mstatus, 0x1000, 0}, {api.Mstatus, 0x800, 0}, {api.Mstatus, 0x1800, 0x1800}, {api.Mstatus, 0x1088, 0x88}, {api.Mstatus, 0xFFFFE777, 0},
		{api.Mie, ones, 8}, {api.Mie, 0xFFFFFFF7, 0},
		{api.Mtvec, ones, 0xFFFFFFFC}, {api.Mtvec, 3, 0}, {api.Mepc, ones, 0xFFFFFFFC}, {api.Mepc, 6, 4},
		{api.Mip, ones, 0},
		{api.Satp, ones, 0x803FFFFF}, {api.Satp, 0x7FC00000, 0}, {api.Satp, 0x80200000, 0x80200000},
		{api.Mscratch, ones, ones}, {api.Mcause, ones, ones}, {api.Mtval, ones, ones}, {api.Mscratch, 3, 3}, {api.Mcause, 3, 3}, {api.Mtval, 3, 3},
	} {
		f := csr.New(1)
		if !f.Set(x.n, x.v) {
			t.Errorf("Set(%#x, %#x) is false", x.n, x.v)
		}
		if v, is := f.Get(x.n); v != x.want || !is {
			t.Errorf("Set(%#x, %#x): Get is %#x %v, not %#x", x.n, x.v, v, is, x.want)
		}
	}
}

func TestHartIsNotSet(t *testing.T) { // P6.1
	f, m := filled(t)
	for _, v := range words() {
		if f.Set(api.Mhartid, v) {
			t.Errorf("Set(Mhartid, %#x) is true", v)
		}
	}
	check(t, &f, m, "behind Set of Mhartid")
	if v, is := f.Get(api.Mhartid); v != 0x21 || !is {
		t.Errorf("Mhartid %#x %v", v, is)
	}
}

func TestUserLooksAtNothing(t *testing.T) { // P6.1: but Satp and All answer
	f, m := filled(t)
	both(t, &f, m, api.Mstatus, 0x80)
	f.Return()
	m.back()
	for _, n := range append(wrongNumbers(), numbers()...) {
		if v, is := f.Get(n); v != 0 || is {
			t.Errorf("Get(%#x) is %#x %v", n, v, is)
		}
		if f.Set(n, ones) || f.Set(n, 0) {
			t.Errorf("Set(%#x) is true", n)
		}
	}
	check(t, &f, m, "behind Set in User")
	if f.Mode() != api.User || f.Satp() == 0 || f.Satp() != f.All()[0] {
		t.Errorf("mode %d, Satp %#x, all %#x", f.Mode(), f.Satp(), f.All())
	}
}

// changes is each call that changes a file, of a file and of its model.
func changes() []func(f *csr.File, m *model) {
	l := []func(f *csr.File, m *model){
		func(f *csr.File, m *model) { f.Bell(false); m.bell(false) },
		func(f *csr.File, m *model) { f.Bell(true); m.bell(true) },
		func(f *csr.File, m *model) { f.Trap(1, 2, 4); m.trap(1, 2, 4) },
		func(f *csr.File, m *model) { f.Return(); m.back() },
	}
	for _, n := range numbers() {
		l = append(l, func(f *csr.File, m *model) { f.Set(n, 0x54321); m.set(n, 0x54321) })
	}
	return l
}

func TestCopies(t *testing.T) { // P6.1: a copy is one of its own, both ways
	for _, change := range changes() {
		states(t, func(f csr.File, m *model) {
			copied, other := f, m.clone()
			change(&f, m)
			check(t, &f, m, "changed")
			check(t, &copied, other, "the copy")
			stays := m.clone()
			change(&copied, other)
			change(&copied, other)
			check(t, &copied, other, "the copy, changed")
			check(t, &f, stays, "left alone")
		})
	}
}

func TestAllIsNewMemory(t *testing.T) { // P0.4, for P6.1
	f, m := filled(t)
	a, b := f.All(), f.All()
	for i := range a {
		a[i] = ones
	}
	if !slices.Equal(b, m.all()) {
		t.Errorf("%#x", b)
	}
	check(t, &f, m, "behind what was written into a list")
	// What a list has room for beyond its end must be its own as well.
	c := append(f.All(), 1)
	d := append(f.All(), 2)
	if c[10] != 1 || d[10] != 2 {
		t.Errorf("%#x %#x", c, d)
	}
	g := f
	c, d = f.All(), g.All()
	c[0] = ones
	if d[0] == ones {
		t.Error("a copy's list is shared")
	}
}

func TestBell(t *testing.T) { // P6.2: bit 3 of Mip alone, in any mode, however often
	states(t, func(f csr.File, m *model) {
		for _, on := range []bool{true, true, false, false, true} {
			f.Bell(on)
			m.bell(on)
			check(t, &f, m, "behind Bell")
			var want uint32
			if on {
				want = 8
			}
			if got := f.All()[8]; got != want {
				t.Fatalf("Mip is %#x", got)
			}
			both(t, &f, m, api.Mip, 0)
			both(t, &f, m, api.Mip, ones)
			check(t, &f, m, "behind Set of Mip")
		}
	})
}

func TestPending(t *testing.T) { // P6.2
	for _, x := range []struct {
		user, enabled, mie, bell, want bool
	}{
		{false, true, true, true, true}, {false, false, true, true, false}, {true, true, true, true, true}, {true, false, true, true, true},
		{false, true, false, true, false}, {false, true, true, false, false}, {true, false, false, true, false}, {true, false, true, false, false},
		{false, true, false, false, false}, {true, true, false, false, false}, {false, false, false, false, false}, {true, true, false, true, false}, {true, true, true, false, false},
	} {
		f := csr.New(0)
		f.Bell(x.bell)
		if x.mie {
			f.Set(api.Mie, 8)
		}
		// Return makes bit 3 of bit 7, so that for User the bit is laid there.
		switch {
		case x.user && x.enabled:
			f.Set(api.Mstatus, 0x80)
			f.Return()
		case x.user:
			f.Return()
		case x.enabled:
			f.Set(api.Mstatus, 0x8)
		default:
			f.Set(api.Mstatus, 0x1880)
		}
		var cause uint32
		if x.want {
			cause = 0x80000003
		}
		for range 2 {
			if got, is := f.Pending(); got != cause || is != x.want {
				t.Errorf("%v: %#x %v", x, got, is)
			}
		}
	}
}

func TestTrap(t *testing.T) { // P6.2: in every state
	states(t, func(f csr.File, m *model) {
		for _, cause := range few() {
			for _, pc := range few() {
				g, n := f, m.clone()
				want := n.trap(cause, ^cause, pc)
				if to := g.Trap(cause, ^cause, pc); to != want {
					t.Fatalf("Trap goes to %#x, not %#x", to, want)
				}
				check(t, &g, n, "behind Trap")
			}
		}
	})
}

func TestTrapTold(t *testing.T) { // P6.2: Mstatus in numbers, from Machine and from User
	for status, want := range map[uint32]uint32{0: 0x1800, 0x8: 0x1880, 0x80: 0x1800, 0x88: 0x1880, 0x1800: 0x1800, 0x1888: 0x1880} {
		f := csr.New(0)
		f.Set(api.Mtvec, 0x203)
		f.Set(api.Mstatus, status)
		if to := f.Trap(api.SoftInterrupt, 5, 0x107); to != 0x200 {
			t.Errorf("goes to %#x", to)
		}
		if got := f.All(); !slices.Equal(got, []uint32{0, want, 0, 0x200, 0, 0x104, 0x80000003, 5, 0, 0}) {
			t.Errorf("%#x: %#x", status, got)
		}
	}
	for status, want := range map[uint32]uint32{0: 0, 0x80: 0x80} {
		f := csr.New(0)
		f.Set(api.Mstatus, status)
		f.Return()
		f.Trap(api.EcallUser, 0, 0)
		if v, is := f.Get(api.Mstatus); v != want || !is || f.Mode() != api.Machine {
			t.Errorf("%#x from User: %#x %v", status, v, is)
		}
	}
}

func TestReturn(t *testing.T) { // P6.2: in every state, User too, however often
	states(t, func(f csr.File, m *model) {
		for range 3 {
			want := m.back()
			if to := f.Return(); to != want {
				t.Fatalf("Return goes to %#x, not %#x", to, want)
			}
			check(t, &f, m, "behind Return")
		}
	})
}

func TestReturnTold(t *testing.T) { // P6.2: mode and Mstatus in numbers
	for _, x := range []struct {
		status, want uint32
		mode         int
	}{
		{0, 0x80, 0}, {0x8, 0x80, 0}, {0x80, 0x88, 0}, {0x88, 0x88, 0},
		{0x1800, 0x80, 3}, {0x1808, 0x80, 3}, {0x1880, 0x88, 3}, {0x1888, 0x88, 3},
	} {
		f := csr.New(0)
		f.Set(api.Mepc, 0x403)
		f.Set(api.Mstatus, x.status)
		if to := f.Return(); to != 0x400 || f.Mode() != x.mode || f.All()[1] != x.want {
			t.Errorf("%#x: goes to %#x in mode %d, Mstatus %#x", x.status, to, f.Mode(), f.All()[1])
		}
	}
}

// open tells whether an interrupt may come, were the bell rung and Mie set; in User, where Mie cannot be set, it always may.
func open(f csr.File) bool {
	if f.Mode() == api.User {
		return true
	}
	f.Set(api.Mie, 8)
	f.Bell(true)
	_, is := f.Pending()
	return is
}

func TestThereAndBack(t *testing.T) { // P6.3: in every state
	states(t, func(f csr.File, m *model) {
		for _, pc := range few() {
			g := f
			g.Trap(api.Breakpoint, 9, pc)
			if open(g) {
				t.Fatal("an interrupt may come behind Trap")
			}
			if to := g.Return(); to != pc/4*4 {
				t.Fatalf("Return goes to %#x, not %#x", to, pc/4*4)
			}
			cause, is := f.Pending()
			if got, may := g.Pending(); g.Mode() != f.Mode() || open(g) != open(f) || got != cause || may != is {
				t.Fatalf("mode %d, not %d; %v, not %v", g.Mode(), f.Mode(), may, is)
			}
			// Bit 3 counts in User too: it is what it was when the next trap comes.
			if (f.All()[1]^g.All()[1])&8 != 0 {
				t.Fatalf("Mstatus %#x, was %#x", g.All()[1], f.All()[1])
			}
		}
	})
}

func TestTrapWithinTrap(t *testing.T) { // P6.3: twice there and twice back, with what the first one keeps
	states(t, func(f csr.File, m *model) {
		g := f
		g.Trap(api.EcallUser, 0, 0x40)
		status, _ := g.Get(api.Mstatus)
		g.Trap(api.Illegal, 0, 0x204)
		if to := g.Return(); to != 0x204 || g.Mode() != api.Machine || open(g) {
			t.Fatalf("goes to %#x in mode %d", to, g.Mode())
		}
		if !g.Set(api.Mstatus, status) || !g.Set(api.Mepc, 0x40) {
			t.Fatal("not set")
		}
		if to := g.Return(); to != 0x40 || g.Mode() != f.Mode() || open(g) != open(f) {
			t.Fatalf("goes to %#x in mode %d", to, g.Mode())
		}
	})
}

func TestLongRuns(t *testing.T) { // P6.1, P6.2: calls in many orders
	var seed uint32 = 1
	next := func(n int) int {
		seed = seed*1664525 + 1013904223
		return int(seed>>8) % n
	}
	pick := words()
	for run := range 40 {
		f, m := csr.New(run), newModel(run)
		for range 500 {
			v := pick[next(len(pick))]
			switch next(6) {
			case 0:
				want := m.trap(v, ^v, v*5)
				if to := f.Trap(v, ^v, v*5); to != want {
					t.Fatalf("Trap goes to %#x, not %#x", to, want)
				}
			case 1:
				want := m.back()
				if to := f.Return(); to != want {
					t.Fatalf("Return goes to %#x, not %#x", to, want)
				}
			case 2:
				on := next(2) == 0
				f.Bell(on)
				m.bell(on)
			default:
				both(t, &f, m, numbers()[next(10)], v)
			}
			check(t, &f, m, "in a long run")
		}
	}
}
