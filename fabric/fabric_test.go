package fabric_test

import (
	"math"
	"slices"
	"testing"

	"corral/api"
	"corral/fabric"
	"corral/mem"
	"corral/net"
)

// small is a fabric where each hart has room for one line of each set.
func small(harts, sets int) fabric.Config {
	return fabric.Config{Harts: harts, Sets: sets, Ways: 1, Room: 6 * harts}
}

// wide is a fabric where whatever a hart asks for has a place.
func wide(harts int) fabric.Config {
	return fabric.Config{Harts: harts, Sets: 64, Ways: 8, Room: 6 * harts}
}

// valid holds Valid and New of one that may be, or may not be.
func valid(t *testing.T, c fabric.Config, want error) {
	t.Helper()
	if err := fabric.Valid(c); err != want {
		t.Errorf("Valid(%v) is %v, not %v", c, err, want)
	}
	f, err := fabric.New(c, memory(t, 1))
	if err != want || (f == nil) != (want != nil) {
		t.Errorf("New(%v) is %v, not %v", c, err, want)
	}
}

func TestValid(t *testing.T) { // P20.1: which counts may be, each held against each other one of its pair
	for harts := -2; harts <= api.MaxHarts+3; harts++ {
		for room := -2; room <= api.MaxQueue+4; room++ {
			var want error
			if harts < 1 || harts > 4 || room < 6*harts || room > 64 {
				want = api.ErrRange
			}
			valid(t, fabric.Config{Harts: harts, Sets: 2, Ways: 2, Room: room}, want)
		}
	}
	for sets := -2; sets <= 130; sets++ {
		for ways := -1; ways <= 10; ways++ {
			var want error
			if !slices.Contains([]int{1, 2, 4, 8, 16, 32, 64}, sets) || ways < 1 || ways > 8 {
				want = api.ErrRange
			}
			valid(t, fabric.Config{Harts: 2, Sets: sets, Ways: ways, Room: 12}, want)
		}
	}
	valid(t, fabric.Config{}, api.ErrRange)
}

func TestValidFar(t *testing.T) { // P20.1: counts that are none, however far off, one at a time
	far := append(none(), math.MaxInt/6+1, math.MaxInt/6*2, 1<<62+1, 1<<32+6, 1<<32+12, math.MinInt+6)
	for _, n := range far {
		valid(t, fabric.Config{Harts: n, Sets: 1, Ways: 1, Room: 64}, api.ErrRange)
		valid(t, fabric.Config{Harts: 1, Sets: n, Ways: 1, Room: 64}, api.ErrRange)
		valid(t, fabric.Config{Harts: 1, Sets: 1, Ways: n, Room: 64}, api.ErrRange)
		valid(t, fabric.Config{Harts: 1, Sets: 1, Ways: 1, Room: n}, api.ErrRange)
		valid(t, fabric.Config{Harts: n, Sets: 1, Ways: 1, Room: n}, api.ErrRange)
	}
}

func TestNew(t *testing.T) { // P20.1: nobody has a line, memory's are those of a copy, and nothing goes back into what was handed in
	for _, lines := range []int{1, 2, 3, api.MaxMem / api.LineBytes} {
		m := memory(t, lines, 1, 2, 3, 4)
		want := m.Clone()
		f, err := fabric.New(wide(3), m)
		if err != nil || f.Lines() != lines {
			t.Fatal(err, f.Lines())
		}
		m.Store(0, 4, 9)
		m.Store(uint32(lines*api.LineBytes-4), 4, 9)
		for line := range lines {
			d, _ := want.Line(line)
			v, is := f.View(line)
			if !is || !same(v, fabric.View{Line: line, State: make([]int, 3), Data: make([]api.Line, 3), Memory: d}) {
				t.Fatalf("at first %v", v)
			}
		}
		if !f.Final().Same(want) || len(f.Flights()) > 0 || !f.Settle() {
			t.Error("it is not as the memory was")
		}
		before := m.Clone()
		gets(t, f, 0, 0, true)
		puts(t, f, 0, 0, 7)
		if !m.Same(before) {
			t.Error("what was handed in was written")
		}
		for h := range 3 {
			if l := f.Lost(h); len(l) > 0 {
				t.Error(l)
			}
		}
	}
}

func TestExample(t *testing.T) { // P20.2, P20.4: the chapter's example
	f, _ := made(t, wide(2), 1)
	gets(t, f, 0, 0, true)
	if !f.Write(0, 0, 4, 7) {
		t.Error("Write")
	}
	if v, is := f.Read(1, 0, 4); v != 0 || is {
		t.Error(v, is)
	}
	gets(t, f, 1, 0, false)
	if v, is := f.Read(1, 0, 4); v != 7 || !is {
		t.Error(v, is)
	}
}

func TestAccesses(t *testing.T) { // P20.2: what is read and written is at each address and size where mem.Has is, and nothing elsewhere
	f, m := made(t, wide(2), 3, 0x04030201, 0x08070605, 0x0C0B0A09, 0x100F0E0D, 0x14131211)
	for line := range 3 {
		gets(t, f, 1, line, true)
		m.Ask(1, line, true)
		m.Settle()
	}
	var addrs []uint32
	for addr := range uint32(3*api.LineBytes + 20) {
		addrs = append(addrs, addr, addr|1<<31, addr|1<<16, addr|1<<24, -addr)
	}
	for _, addr := range addrs {
		for _, size := range []int{0, 1, 2, 3, 4, 5, 8, 16, -1, -4, 1 << 32, 1<<32 + 4, math.MinInt, math.MaxInt} {
			did(t, f, m, doing{what: read, h: 1, addr: addr, size: size})
			did(t, f, m, doing{what: write, h: 1, addr: addr, size: size, v: 0x89ABCDEF ^ addr*0x01010101})
			did(t, f, m, doing{what: read, h: 1, addr: addr, size: size})
			did(t, f, m, doing{what: read, h: 0, addr: addr, size: size})
			did(t, f, m, doing{what: write, h: 0, addr: addr, size: size, v: 5})
		}
	}
	check(t, f, m)
}

func TestCan(t *testing.T) { // P20.2: each state can be read but Invalid; only Exclusive and Modified can be written; neither while it waits
	f, _ := made(t, small(3, 1), 2, 5)
	can := func(h int, reads, writes bool) {
		t.Helper()
		if _, is := f.Read(h, 4, 4); is != reads {
			t.Errorf("Read of hart %d is %v", h, is)
		}
		before, _ := f.View(0)
		if is := f.Write(h, 4, 4, 0); is != writes {
			t.Errorf("Write of hart %d is %v", h, is)
		}
		if v, _ := f.View(0); !writes && !same(v, before) {
			t.Error("it was written:", v)
		}
	}
	can(0, false, false)
	asks(t, f, 0, 0, false)
	can(0, false, false) // it waits for GetS
	f.Settle()
	states(t, f, 0, api.Exclusive, 0, 0)
	can(0, true, true)
	states(t, f, 0, api.Modified, 0, 0)
	can(0, true, true)
	gets(t, f, 1, 0, false)
	states(t, f, 0, api.Owned, api.Shared, 0)
	can(0, true, false)
	can(1, true, false)
	can(2, false, false)
	asks(t, f, 0, 0, true)
	asks(t, f, 1, 0, true)
	states(t, f, 0, api.Owned, api.Shared, 0)
	can(0, false, false) // they wait for GetM, with a copy
	can(1, false, false)
	f.Settle()
	states(t, f, 0, 0, api.Modified, 0)
	can(1, true, true)
	asks(t, f, 1, 1, false)
	can(1, false, false) // it waits for Put
	f.Settle()
	can(1, false, false)
}

func TestNoHart(t *testing.T) { // P20.2, P20.3, P20.4, P0.7: of harts, lines and messages that are none there is nothing
	f, m := made(t, wide(2), 2, 5)
	gets(t, f, 0, 0, true)
	gets(t, f, 1, 1, true)
	puts(t, f, 0, 0, 6)
	gets(t, f, 1, 0, true)
	for _, n := range append(none(), 2, 3, 4) {
		if v, is := f.Read(n, 0, 4); v != 0 || is {
			t.Errorf("Read of hart %d is %d %v", n, v, is)
		}
		if f.Write(n, 0, 4, 9) || f.Ask(n, 0, false) || f.Ask(0, n, false) || f.Ask(n, n, true) {
			t.Errorf("something was done for %d", n)
		}
		if l := f.Lost(n); len(l) > 0 {
			t.Errorf("Lost(%d) is %v", n, l)
		}
		if v, is := f.View(n); is || !same(v, fabric.View{}) || v.State != nil || v.Data != nil {
			t.Errorf("View(%d) is %v %v", n, v, is)
		}
	}
	asks(t, f, 0, 0, false)
	id := f.Flights()[0].ID
	before := f.Flights()
	for _, n := range append(none(), id-1, id+1, id+1<<32, id-1<<32, 0) {
		if f.Deliver(n) || !slices.Equal(f.Flights(), before) {
			t.Errorf("%d was delivered", n)
		}
	}
	m.last.Store(0, 4, 6)
	if !f.Final().Same(m.last) || !slices.Equal(f.Lost(0), []int{0}) {
		t.Error("something was lost")
	}
}

func TestAskAlready(t *testing.T) { // P20.2: what can be read, or written, already, or waits for anything, is not asked for
	f, _ := made(t, small(2, 1), 2, 5)
	not := func(line int, write bool) {
		t.Helper()
		before := f.Flights()
		if f.Ask(0, line, write) || !slices.Equal(f.Flights(), before) {
			t.Errorf("it asked for %d, to write: %v", line, write)
		}
	}
	asks(t, f, 0, 0, false)
	not(0, false) // it waits for GetS
	not(0, true)
	f.Settle()
	not(0, false) // Exclusive
	not(0, true)
	puts(t, f, 0, 0, 6)
	not(0, false) // Modified
	not(0, true)
	gets(t, f, 1, 0, false)
	not(0, false) // Owned
	asks(t, f, 0, 0, true)
	not(0, false) // it waits for GetM
	not(0, true)
	f.Settle()
	gets(t, f, 1, 0, false)
	gets(t, f, 1, 1, false)
	gets(t, f, 1, 0, false)
	states(t, f, 0, api.Owned, api.Shared)
	asks(t, f, 0, 1, false)
	f.Deliver(f.Flights()[1].ID)
	not(0, false) // it waits for Put
	not(0, true)
	f.Settle()
	gets(t, f, 0, 0, false)
	states(t, f, 0, api.Shared, api.Shared)
	not(0, false) // Shared
	asks(t, f, 0, 0, true)
}

func TestFourWait(t *testing.T) { // P20.2: while four lines of a hart wait, it asks for no fifth; what waits for Put counts; other harts' don't
	f, m := made(t, fabric.Config{Harts: 2, Sets: 8, Ways: 8, Room: 12}, 12)
	for line := range 8 {
		want := line < 4
		if did(t, f, m, doing{what: ask, h: 0, line: line, writes: line%2 > 0}).is != want {
			t.Error(line)
		}
		check(t, f, m)
	}
	asks(t, f, 1, 5, false)
	m.Ask(1, 5, false)
	comes(t, f, api.GetS, 0, 0)
	m.Deliver(0)
	if f.Ask(0, 4, false) {
		t.Error("it waits still")
	}
	data := f.Flights()[len(f.Flights())-1]
	if !f.Deliver(data.ID) || !f.Ask(0, 4, false) || f.Ask(0, 6, false) {
		t.Error("line 0 has come")
	}
}

func TestFiveWait(t *testing.T) { // P20.2: with three that wait, the fourth may evict one more, that waits for Put and counts till PutAck comes
	f, _ := made(t, fabric.Config{Harts: 1, Sets: 4, Ways: 1, Room: 6}, 16)
	for line := range 4 {
		gets(t, f, 0, line, true)
	}
	asks(t, f, 0, 4, true) // 0 and 4
	if f.Settle(); !f.Ask(0, 8, true) || !f.Ask(0, 5, true) {
		t.Fatal("two, and two more")
	}
	flies(t, f, api.Put, api.GetM, api.Put, api.GetM)
	if f.Ask(0, 6, true) {
		t.Error("four wait")
	}
	states(t, f, 2, api.Exclusive)
	comes(t, f, api.Put, 1, 0)
	if f.Ask(0, 6, true) {
		t.Error("four wait, one of them for PutAck")
	}
	comes(t, f, api.PutAck, 1, 0)
	asks(t, f, 0, 6, true)
	flies(t, f, api.Put, api.GetM, api.GetM, api.Put, api.GetM)
	for _, line := range []int{0, 1, 7, 9, 11} {
		if f.Ask(0, line, true) {
			t.Error("five wait, and it asks for", line)
		}
	}
	if !f.Settle() || !f.Ask(0, 11, false) {
		t.Error("nothing waits")
	}
}

func TestVictim(t *testing.T) { // P20.2: of a full set the line is evicted that was used longest ago: by Read, by Write, by Ask; by nothing else
	for _, x := range []struct {
		name string
		use  func(f *fabric.Fabric)
		want int // the line of 0, 2 and 4, asked for in that order, that goes
	}{
		{"nothing", func(f *fabric.Fabric) {}, 0},
		{"Read", func(f *fabric.Fabric) { f.Read(0, 5, 1) }, 2},
		{"Write", func(f *fabric.Fabric) { f.Write(0, 0, 4, 1) }, 2},
		{"both", func(f *fabric.Fabric) { f.Write(0, 0, 4, 1); f.Read(0, 32, 4) }, 4},
		{"Ask of a Shared one", func(f *fabric.Fabric) {
			f.Ask(1, 0, false)
			f.Settle()
			f.Ask(0, 0, true)
			f.Settle()
		}, 2},
		{"no Read", func(f *fabric.Fabric) {
			f.Read(0, 5, 2)
			f.Read(0, 5, 4)
			f.Read(0, 0, 3)
			f.Read(1, 0, 4)
			f.Read(0, 16, 4)
		}, 0},
		{"no Write", func(f *fabric.Fabric) { f.Write(0, 5, 2, 1); f.Write(1, 0, 4, 1); f.Write(0, 16, 4, 1) }, 0},
		{"no Ask", func(f *fabric.Fabric) { f.Ask(0, 0, false); f.Ask(0, 0, true) }, 0},
		{"what is told", func(f *fabric.Fabric) { f.View(0); f.Lost(0); f.Final(); f.Flights(); f.Settle() }, 0},
		{"a Write that can't be", func(f *fabric.Fabric) {
			f.Ask(1, 0, false)
			f.Settle()
			f.Write(0, 0, 4, 1)
		}, 0},
		{"what others do", func(f *fabric.Fabric) {
			f.Ask(1, 0, false)
			f.Settle()
			f.Read(1, 0, 4)
		}, 0},
	} {
		f, _ := made(t, fabric.Config{Harts: 2, Sets: 2, Ways: 3, Room: 12}, 12)
		for _, line := range []int{1, 0, 2, 3, 4} {
			gets(t, f, 0, line, false)
		}
		x.use(f)
		f.Lost(0)
		asks(t, f, 0, 6, false)
		if got := f.Lost(0); !slices.Equal(got, []int{x.want}) {
			t.Errorf("%s: %v went, not %d", x.name, got, x.want)
		}
	}
}

func TestAnswerIsNoUse(t *testing.T) { // P20.2: a line was used when it was asked for, not when it comes
	f, _ := made(t, fabric.Config{Harts: 1, Sets: 1, Ways: 2, Room: 6}, 4)
	asks(t, f, 0, 0, false)
	asks(t, f, 0, 1, false)
	for _, line := range []int{1, 0} {
		comes(t, f, api.GetS, line, 0)
		comes(t, f, api.Data, line, 0)
	}
	asks(t, f, 0, 2, false)
	if got := f.Lost(0); !slices.Equal(got, []int{0}) {
		t.Error(got)
	}
}

func TestVictimWaits(t *testing.T) { // P20.2: what waits is not evicted; where all of the set do, nothing is asked, and nothing happens
	f, m := made(t, fabric.Config{Harts: 2, Sets: 2, Ways: 2, Room: 12}, 12)
	for _, line := range []int{0, 2} {
		gets(t, f, 0, line, false)
		gets(t, f, 1, line, false)
		for h := range 2 {
			m.Ask(h, line, false)
			m.Settle()
		}
	}
	states(t, f, 0, api.Shared, api.Shared)
	for _, d := range []doing{
		{what: ask, h: 0, line: 0, writes: true}, // used longest ago, but it waits; it has a copy still
		{what: ask, h: 0, line: 4},
		{what: lost, h: 0},         // 2
		{what: ask, h: 0, line: 6}, // 0 and 4 wait
		{what: ask, h: 0, line: 2}, // as before
		{what: lost, h: 0},         // none
		{what: ask, h: 0, line: 1}, // of the other set
	} {
		did(t, f, m, d)
		check(t, f, m)
	}
	flies(t, f, api.GetM, api.GetS, api.GetS)
	states(t, f, 0, api.Shared, api.Shared)
	states(t, f, 2, api.Invalid, api.Shared)
}

func TestEvicted(t *testing.T) { // P20.2: what is sent where a line goes, by its state, and that its place is another one's at once
	for _, x := range []struct {
		state int
		bring func(f *fabric.Fabric)
		want  []int
		dirty bool
	}{
		{api.Shared, func(f *fabric.Fabric) { gets(t, f, 1, 0, false); gets(t, f, 0, 0, false) }, []int{api.GetM}, false},
		{api.Exclusive, func(f *fabric.Fabric) { gets(t, f, 0, 0, false) }, []int{api.Put, api.GetM}, false},
		{api.Owned, func(f *fabric.Fabric) { gets(t, f, 0, 0, true); puts(t, f, 0, 0, 9); gets(t, f, 1, 0, false) }, []int{api.Put, api.GetM}, true},
		{api.Modified, func(f *fabric.Fabric) { gets(t, f, 0, 0, true); puts(t, f, 0, 0, 9) }, []int{api.Put, api.GetM}, true},
	} {
		f, _ := made(t, small(2, 1), 3, 5)
		x.bring(f)
		if v, _ := f.View(0); v.State[0] != x.state {
			t.Fatal(v.State, x.state)
		}
		last := f.Final()
		asks(t, f, 0, 1, true)
		flies(t, f, x.want...)
		l := f.Flights()
		if len(l) > 1 {
			word, _ := last.Load(0, 4)
			want := api.Msg{Kind: api.Put, From: 0, To: -1, Data: api.Line{word}, Has: true, Dirty: x.dirty}
			if l[0].Msg != want || l[1].ID != l[0].ID+1 {
				t.Errorf("%v, not %v", l, want)
			}
		}
		if v, _ := f.View(0); v.State[0] != api.Invalid || v.Puts != (x.state != api.Shared) || v.Data[0] != (api.Line{}) {
			t.Error(v)
		}
		if got := f.Lost(0); !slices.Equal(got, []int{0}) || !f.Final().Same(last) {
			t.Error(got)
		}
		if f.Ask(0, 2, false) {
			t.Error("1 waits, and has the only place")
		}
		comes(t, f, api.GetM, 1, 0)
		comes(t, f, api.Data, 1, 0)
		asks(t, f, 0, 2, false) // though line 0 may wait for its PutAck still
		f.Settle()
		states(t, f, 2, api.Exclusive, 0)
		if !f.Final().Same(last) {
			t.Error("something was lost")
		}
	}
}

func TestLeaves(t *testing.T) { // P20.2: a line that was lost by a message leaves its place; one that waits keeps it
	for _, write := range []bool{false, true} { // lost by Take of an Exclusive line, by Inv of a Shared one
		f, _ := made(t, fabric.Config{Harts: 3, Sets: 1, Ways: 2, Room: 18}, 4)
		gets(t, f, 0, 0, false)
		gets(t, f, 0, 1, false)
		if write {
			gets(t, f, 1, 1, false)
		}
		gets(t, f, 2, 1, true)
		states(t, f, 1, 0, 0, api.Exclusive)
		if got := f.Lost(0); !slices.Equal(got, []int{1}) {
			t.Error(got)
		}
		asks(t, f, 0, 2, false)
		if got := f.Lost(0); len(got) > 0 {
			t.Error(got, "went, though there was a place")
		}
		states(t, f, 0, api.Exclusive, 0, 0)
	}
	f, _ := made(t, small(2, 1), 2)
	gets(t, f, 0, 0, false)
	gets(t, f, 1, 0, false)
	asks(t, f, 1, 0, true)
	asks(t, f, 0, 0, true)
	comes(t, f, api.GetM, 0, 1)
	comes(t, f, api.Inv, 0, 0)
	states(t, f, 0, 0, api.Shared)
	if got := f.Lost(0); !slices.Equal(got, []int{0}) || f.Ask(0, 1, false) {
		t.Error(got, "the place of 0 is kept for what it waits for")
	}
	f.Settle()
	states(t, f, 0, api.Exclusive, 0)
}

func TestSets(t *testing.T) { // P20.2: a line goes for one of its own set alone, at each count of sets and ways
	for sets := 1; sets <= 64; sets *= 2 {
		for ways := 1; ways <= 8; ways++ {
			f, m := made(t, fabric.Config{Harts: 1, Sets: sets, Ways: ways, Room: 6}, sets*(ways+3))
			for line := range sets * ways {
				did(t, f, m, doing{what: ask, line: line})
				did(t, f, m, doing{what: settle})
			}
			if got := f.Lost(0); len(got) > 0 {
				t.Fatalf("%d sets, %d ways: %v went", sets, ways, got)
			}
			for i, line := range []int{sets - 1, 0, sets / 2} {
				did(t, f, m, doing{what: read, addr: uint32(line * api.LineBytes), size: 4})
				did(t, f, m, doing{what: ask, line: sets*(ways+i) + line})
				did(t, f, m, doing{what: settle})
				got := did(t, f, m, doing{what: lost}).list
				if len(got) != 1 || got[0]%sets != line || ways > 1 && got[0] == line {
					t.Errorf("%d sets, %d ways: %v went for one of the set of %d", sets, ways, got, line)
				}
			}
			check(t, f, m)
		}
	}
}

func TestLost(t *testing.T) { // P20.3: what was lost by Inv, by Take, by going for another one: rising, each once, till it was told; and nothing else
	f, _ := made(t, fabric.Config{Harts: 2, Sets: 1, Ways: 4, Room: 12}, 12)
	is := func(h int, want ...int) {
		t.Helper()
		if got := f.Lost(h); !slices.Equal(got, want) {
			t.Errorf("hart %d lost %v, not %v", h, got, want)
		}
	}
	for _, line := range []int{7, 9, 8} {
		gets(t, f, 0, line, true)
		puts(t, f, 0, line, uint32(line))
	}
	gets(t, f, 1, 9, false) // Share is no loss
	is(0)
	is(1)
	gets(t, f, 1, 8, true) // by Take
	gets(t, f, 1, 7, true) // by Take
	gets(t, f, 1, 9, true)
	for range 3 {
		gets(t, f, 0, 8, true) // it is there again, and lost again
		gets(t, f, 1, 8, true)
	}
	gets(t, f, 0, 7, false)
	is(0, 7, 8, 9)
	is(0)
	is(1, 8)
	gets(t, f, 1, 7, true) // by Inv
	is(0, 7)
	is(1)
	for _, line := range []int{5, 4, 3, 2} {
		gets(t, f, 0, line, true)
	}
	is(0)
	gets(t, f, 0, 6, false) // for which 5 goes
	gets(t, f, 0, 1, false) // for which 4 goes
	is(0, 4, 5)
	is(1)
}

func TestLostOnce(t *testing.T) { // P20.3: what is taken of a line that was evicted already is no second loss; nor what comes to one that was lost
	f, _ := made(t, small(2, 1), 2)
	gets(t, f, 0, 0, true)
	puts(t, f, 0, 0, 3)
	asks(t, f, 0, 1, false)
	if got := f.Lost(0); !slices.Equal(got, []int{0}) {
		t.Error(got)
	}
	asks(t, f, 1, 0, true)
	comes(t, f, api.GetM, 0, 1)
	comes(t, f, api.Take, 0, 0)
	f.Settle()
	if got := f.Lost(0); len(got) > 0 {
		t.Error(got)
	}
	states(t, f, 0, 0, api.Modified)
}

func TestDeliver(t *testing.T) { // P20.3: each message comes once, to whom it is for, and what it is answered by is on its way behind all others
	f, _ := made(t, wide(2), 2, 5)
	asks(t, f, 0, 0, false)
	asks(t, f, 1, 0, true)
	want := []net.Flight{
		{ID: 0, Msg: api.Msg{Kind: api.GetS, From: 0, To: -1}},
		{ID: 1, Msg: api.Msg{Kind: api.GetM, From: 1, To: -1}},
	}
	step := func(id int, is bool, sent ...net.Flight) {
		t.Helper()
		if f.Deliver(id) != is {
			t.Errorf("Deliver(%d) is %v", id, !is)
		}
		if is {
			want = slices.DeleteFunc(want, func(x net.Flight) bool { return x.ID == id })
		}
		want = append(want, sent...)
		if got := f.Flights(); !slices.Equal(got, want) {
			t.Errorf("%v, not %v", got, want)
		}
	}
	data := api.Line{5}
	step(2, false)
	step(0, true, net.Flight{ID: 2, Msg: api.Msg{Kind: api.Data, From: -1, To: 0, Data: data, Has: true, Alone: true}})
	step(0, false)
	step(1, false) // the home is busy
	step(2, true, net.Flight{ID: 3, Msg: api.Msg{Kind: api.Done, From: 0, To: -1}})
	step(1, false)
	step(3, true)
	step(1, true, net.Flight{ID: 4, Msg: api.Msg{Kind: api.Take, From: -1, To: 0}})
	step(4, true, net.Flight{ID: 5, Msg: api.Msg{Kind: api.Back, From: 0, To: -1, Data: data, Has: true}})
	step(5, true, net.Flight{ID: 6, Msg: api.Msg{Kind: api.Data, From: -1, To: 1, Data: data, Has: true, Alone: true}})
	step(6, true, net.Flight{ID: 7, Msg: api.Msg{Kind: api.Done, From: 1, To: -1}})
	step(7, true)
	step(7, false)
	step(8, false)
}

func TestNoRoom(t *testing.T) { // P20.3: what can't be answered, as its link is full, does not come, and nothing happens; then it comes
	for harts := 1; harts <= 4; harts++ {
		for room := 6 * harts; room <= api.MaxQueue; room += 5 {
			f, m := made(t, fabric.Config{Harts: harts, Sets: 64, Ways: 8, Room: room}, 80)
			for line := range room {
				for _, d := range []doing{{what: ask, line: line}, {what: deliver, line: 3 * line}, {what: deliver, line: 3*line + 1}} {
					if !did(t, f, m, d).is {
						t.Fatalf("%+v was not done", d)
					}
				}
			}
			check(t, f, m) // a Done of each is on its way
			asks(t, f, 0, room, true)
			m.Ask(0, room, true)
			id := 3 * room
			did(t, f, m, doing{what: deliver, line: id})
			for range 2 {
				if did(t, f, m, doing{what: deliver, line: id + 1}).is {
					t.Errorf("%d harts: its Done is one more than %d", harts, room)
				}
				check(t, f, m)
			}
			if v, _ := f.View(room); v.State[0] != api.Invalid || !v.Busy {
				t.Error(v)
			}
			if harts > 1 { // another hart's link has room
				gets := doing{what: ask, h: 1, line: room + 1}
				did(t, f, m, gets)
				did(t, f, m, doing{what: deliver, line: id + 2})
				if !did(t, f, m, doing{what: deliver, line: id + 3}).is {
					t.Error("the other link is not full")
				}
			}
			if !f.Deliver(5) || !f.Deliver(id+1) || f.Deliver(id+1) {
				t.Error("there is room for one")
			}
			if !f.Settle() || len(f.Flights()) > 0 {
				t.Error("not all has come")
			}
		}
	}
}

func TestNoRoomForBack(t *testing.T) { // P20.3: Inv, Share and Take are not taken either while there is no room for Ack and Back
	for _, kind := range []int{api.Inv, api.Share, api.Take} {
		f, _ := made(t, fabric.Config{Harts: 3, Sets: 64, Ways: 8, Room: 18}, 80)
		gets(t, f, 0, 70, true)
		puts(t, f, 0, 70, 4)
		if kind == api.Inv {
			gets(t, f, 1, 70, true)
			gets(t, f, 0, 70, false)
			f.Lost(0)
		}
		for line := range 18 {
			asks(t, f, 0, line, false)
			comes(t, f, api.GetS, line, 0)
			comes(t, f, api.Data, line, 0)
		}
		asks(t, f, 2, 70, kind != api.Share)
		f.Deliver(f.Flights()[18].ID)
		before, _ := f.View(70)
		flights := f.Flights()
		if tries(t, f, kind, 70, 0) {
			t.Error("its link is full")
		}
		v, _ := f.View(70)
		if !same(v, before) || !slices.Equal(f.Flights(), flights) || len(f.Lost(0)) > 0 {
			t.Error("something has happened", v, before)
		}
		comes(t, f, api.Done, 9, 0)
		comes(t, f, kind, 70, 0)
		if l := f.Lost(0); (len(l) > 0) != (kind != api.Share) {
			t.Error(l)
		}
		if !f.Settle() {
			t.Error("Settle")
		}
	}
}

func TestPutAckNeedsNoRoom(t *testing.T) { // P20.3: what is answered by nothing comes though links are full
	f, _ := made(t, fabric.Config{Harts: 1, Sets: 64, Ways: 1, Room: 6}, 80)
	gets(t, f, 0, 0, true)
	for line := 1; line <= 6; line++ {
		asks(t, f, 0, line, false)
		comes(t, f, api.GetS, line, 0)
		comes(t, f, api.Data, line, 0)
	}
	asks(t, f, 0, 64, false)
	comes(t, f, api.Put, 0, 0)
	comes(t, f, api.PutAck, 0, 0)
	if v, _ := f.View(0); v.Puts {
		t.Error(v)
	}
}

func TestView(t *testing.T) { // P20.4: states and data hart by hart, memory's data, a busy home, one that waits for Put
	f, _ := made(t, small(3, 1), 3, 0, 0, 0, 0, 5, 6, 7, 8)
	is := func(want fabric.View) {
		t.Helper()
		want.Line = 1
		if v, there := f.View(1); !there || !same(v, want) {
			t.Errorf("it is %v %v, not %v", v, there, want)
		}
	}
	old, new := api.Line{5, 6, 7, 8}, api.Line{9, 6, 7, 8}
	no := api.Line{}
	asks(t, f, 1, 1, false)
	is(fabric.View{State: []int{0, 0, 0}, Data: []api.Line{no, no, no}, Memory: old})
	comes(t, f, api.GetS, 1, 1)
	is(fabric.View{State: []int{0, 0, 0}, Data: []api.Line{no, no, no}, Memory: old, Busy: true})
	comes(t, f, api.Data, 1, 1)
	is(fabric.View{State: []int{0, api.Exclusive, 0}, Data: []api.Line{no, old, no}, Memory: old, Busy: true})
	comes(t, f, api.Done, 1, 1)
	is(fabric.View{State: []int{0, api.Exclusive, 0}, Data: []api.Line{no, old, no}, Memory: old})
	puts(t, f, 1, 1, 9)
	is(fabric.View{State: []int{0, api.Modified, 0}, Data: []api.Line{no, new, no}, Memory: old})
	gets(t, f, 2, 1, false)
	is(fabric.View{State: []int{0, api.Owned, api.Shared}, Data: []api.Line{no, new, new}, Memory: old})
	asks(t, f, 2, 0, false) // a Shared line goes, and waits for nothing
	is(fabric.View{State: []int{0, api.Owned, 0}, Data: []api.Line{no, new, no}, Memory: old})
	f.Settle()
	asks(t, f, 1, 0, false)
	is(fabric.View{State: []int{0, 0, 0}, Data: []api.Line{no, no, no}, Memory: old, Puts: true})
	comes(t, f, api.Put, 1, 1)
	is(fabric.View{State: []int{0, 0, 0}, Data: []api.Line{no, no, no}, Memory: new, Puts: true})
	f.Settle()
	is(fabric.View{State: []int{0, 0, 0}, Data: []api.Line{no, no, no}, Memory: new})
}

func TestSettle(t *testing.T) { // P20.4: the first one by number comes that can, each time anew; none is on its way then
	f, _ := made(t, wide(3), 1)
	if !f.Settle() {
		t.Error("there is none")
	}
	for h := range 3 {
		asks(t, f, h, 0, true)
	}
	if !f.Settle() || len(f.Flights()) > 0 {
		t.Error("Settle")
	}
	states(t, f, 0, 0, 0, api.Exclusive) // the last one that asked has it at last
	f, _ = made(t, wide(3), 1)
	asks(t, f, 0, 0, true)
	comes(t, f, api.GetM, 0, 0)
	asks(t, f, 1, 0, true)
	comes(t, f, api.Data, 0, 0)
	asks(t, f, 2, 0, true)
	flies(t, f, api.GetM, api.Done, api.GetM)
	if !f.Settle() { // Done comes first, as it can; behind it hart 1's, though it lies ahead
		t.Error("Settle")
	}
	states(t, f, 0, 0, 0, api.Exclusive)
	asks(t, f, 0, 0, false)
	if id := f.Flights()[0].ID; id != 13 {
		t.Errorf("%d were sent, not 13", id)
	}
}

func TestFinal(t *testing.T) { // P20.4: wherever the newest data of a line are, memory has them at last
	three := func() *fabric.Fabric { // hart 0 has line 0 Modified
		f, _ := made(t, small(3, 1), 2, 5)
		finally(t, f, 0, 5)
		gets(t, f, 0, 0, true)
		finally(t, f, 0, 5)
		puts(t, f, 0, 0, 6)
		finally(t, f, 0, 6)
		return f
	}
	f := three()
	asks(t, f, 1, 0, true)
	for _, x := range [][2]int{{api.GetM, 1}, {api.Take, 0}, {api.Back, 0}, {api.Data, 1}, {api.Done, 1}} {
		comes(t, f, x[0], 0, x[1])
		finally(t, f, 0, 6) // in the cache of 0; in Back; in Data; in the cache of 1
	}
	states(t, f, 0, 0, api.Modified, 0)

	f = three()
	gets(t, f, 1, 0, false)
	states(t, f, 0, api.Owned, api.Shared, 0)
	finally(t, f, 0, 6)
	asks(t, f, 2, 0, true)
	for _, x := range [][2]int{{api.GetM, 2}, {api.Take, 0}, {api.Back, 0}, {api.Inv, 1}} {
		comes(t, f, x[0], 0, x[1])
		finally(t, f, 0, 6) // behind Back its home holds it, till Ack comes
	}
	if v, _ := f.View(0); v.Memory != (api.Line{5}) || !slices.Equal(v.State, []int{0, 0, 0}) {
		t.Error(v)
	}
	flies(t, f, api.Ack)
	comes(t, f, api.Ack, 0, 1)
	finally(t, f, 0, 6)

	f = three()
	asks(t, f, 0, 1, false)
	for _, x := range [][2]int{{api.Put, 0}, {api.PutAck, 0}} {
		finally(t, f, 0, 6) // kept for Put
		comes(t, f, x[0], 0, x[1])
	}
	finally(t, f, 0, 6)
	if v, _ := f.View(0); v.Memory != (api.Line{6}) || v.Puts {
		t.Error(v)
	}
}

func TestFinalKept(t *testing.T) { // P20.4: what waits for Put may have to be told to others; whoever has it then, it is not lost
	for _, write := range []bool{false, true} {
		f, _ := made(t, small(3, 1), 2, 5)
		gets(t, f, 0, 0, true)
		puts(t, f, 0, 0, 6)
		asks(t, f, 0, 1, false)
		asks(t, f, 1, 0, write)
		kind := map[bool]int{true: api.Take, false: api.Share}[write]
		ask := map[bool]int{true: api.GetM, false: api.GetS}[write]
		for _, x := range [][2]int{{ask, 1}, {kind, 0}, {api.Back, 0}, {api.Data, 1}, {api.Done, 1}} {
			comes(t, f, x[0], 0, x[1])
			finally(t, f, 0, 6)
		}
		if v, _ := f.View(0); v.Memory != (api.Line{5}) || !v.Puts {
			t.Error(v)
		}
		if write {
			puts(t, f, 1, 0, 7)
		}
		f.Settle()
		finally(t, f, 0, map[bool]uint32{true: 7, false: 6}[write])
	}
}

func TestFinalClean(t *testing.T) { // P20.4: what is as memory has it, or older, is not put: a clean line that waits for Put, or one whose Put has come and that others wrote since
	f, _ := made(t, small(2, 1), 2, 5)
	gets(t, f, 0, 0, false)
	asks(t, f, 0, 1, false)
	finally(t, f, 0, 5)
	f.Settle()
	gets(t, f, 0, 0, true)
	puts(t, f, 0, 0, 6)
	asks(t, f, 0, 1, false)
	comes(t, f, api.Put, 0, 0)
	asks(t, f, 1, 0, true)
	for _, kind := range []int{api.GetM, api.Data, api.Done} {
		comes(t, f, kind, 0, 1)
		finally(t, f, 0, 6)
	}
	puts(t, f, 1, 0, 7) // hart 0 waits for PutAck still, and keeps 6
	finally(t, f, 0, 7)
	asks(t, f, 1, 1, false)
	finally(t, f, 0, 7) // both wait for Put
	comes(t, f, api.Put, 0, 1)
	finally(t, f, 0, 7)
	comes(t, f, api.PutAck, 0, 1)
	finally(t, f, 0, 7)
	if v, _ := f.View(0); !v.Puts || v.Memory != (api.Line{7}) {
		t.Error(v)
	}
	f.Settle()
	finally(t, f, 0, 7)
}

func TestMost(t *testing.T) { // P20.1, P20.2: the greatest memory, and its last line
	f, _ := made(t, fabric.Config{Harts: 4, Sets: 64, Ways: 8, Room: 64}, api.MaxMem/api.LineBytes)
	for h := range 4 {
		gets(t, f, h, f.Lines()-1, true)
		if !f.Write(h, api.MaxMem-4, 4, uint32(h)) || f.Write(h, api.MaxMem, 4, 1) {
			t.Error("Write")
		}
	}
	if v, is := f.Read(3, api.MaxMem-4, 4); v != 3 || !is || mem.LineOf(api.MaxMem-4) != f.Lines()-1 {
		t.Error(v, is)
	}
}
