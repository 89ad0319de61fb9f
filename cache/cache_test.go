package cache_test

import (
	"math"
	"slices"
	"testing"

	"corral/api"
	"corral/cache"
)

func TestExample(t *testing.T) { // P17.1, P17.2: the chapter's example
	c, _ := made(t, 2, 1)
	for line, want := range []error{nil, nil, api.ErrFull} {
		if err := c.Put(shared(line)); err != want {
			t.Errorf("Put %d: %v", line, err)
		}
	}
	if got, is := c.Victim(2); got != shared(0) || !is {
		t.Error(got, is)
	}
}

func TestNew(t *testing.T) { // P17.1: sets 1, 2, 4 .. 64, ways 1 to 8, and no others
	sizes := []int{1, 2, 4, 8, 16, 32, 64}
	for sets := -130; sets <= 260; sets++ {
		for ways := -2; ways <= 18; ways++ {
			is := slices.Contains(sizes, sets) && ways >= 1 && ways <= 8
			c, err := cache.New(sets, ways)
			if is && (c == nil || err != nil) || !is && (c != nil || err != api.ErrRange) {
				t.Errorf("New(%d, %d) is %v, %v", sets, ways, c, err)
			}
		}
	}
	for _, x := range append(below(), far()...) {
		for _, y := range []int{x, 0, 1, 2, 8, 64} {
			if c, err := cache.New(x, y); c != nil || err != api.ErrRange {
				t.Errorf("New(%d, %d) is %v, %v", x, y, c, err)
			}
			if c, err := cache.New(y, x); c != nil || err != api.ErrRange {
				t.Errorf("New(%d, %d) is %v, %v", y, x, c, err)
			}
		}
	}
}

func TestEmpty(t *testing.T) { // P17.1, P17.2: nothing is there, and all has room
	for _, sets := range []int{1, 2, 4, 64} {
		for ways := 1; ways <= 8; ways++ {
			c, m := made(t, sets, ways)
			check(t, c, m)
			used(t, c, m, 0, 1, 63, -1)
			dropped(t, c, m, 0, 1, 63, -1)
			check(t, c, m)
			for _, line := range far() {
				checkLine(t, c, m, line)
			}
		}
	}
}

func TestSets(t *testing.T) { // P17.1: line modulo sets, and of each set so many lines as there are ways
	for sets := 1; sets <= 64; sets *= 2 {
		for ways := 1; ways <= 8; ways++ {
			c, m := made(t, sets, ways)
			for line := range sets * ways {
				put(t, c, m, shared(line))
			}
			check(t, c, m)
			if c.Len() != sets*ways {
				t.Fatalf("%d sets of %d ways have %d", sets, ways, c.Len())
			}
			for line := range sets {
				if err := c.Put(shared(sets*ways + line)); err != api.ErrFull {
					t.Fatalf("%d sets of %d ways: %d: %v", sets, ways, line, err)
				}
			}
			check(t, c, m)
			// Room in one set is room in no other.
			dropped(t, c, m, sets-1)
			for line := range sets {
				put(t, c, m, shared(sets*ways+line))
			}
			check(t, c, m)
		}
	}
}

func TestSetsInNumbers(t *testing.T) { // P17.1: which lines share a set
	for _, x := range []struct {
		sets, a, b int
		share      bool
	}{
		{1, 0, 1, true}, {1, 5, 1 << 40, true}, {2, 0, 1, false}, {2, 0, 2, true}, {2, 3, 1, true}, {2, 1 << 40, 1, false},
		{4, 1, 3, false}, {4, 1, 5, true}, {4, 3, 1<<32 + 3, true}, {4, 3, 1<<32 + 2, false},
		{64, 0, 63, false}, {64, 0, 64, true}, {64, 32, 0, false}, {64, 63, math.MaxInt, true}, {64, 62, math.MaxInt, false}, {64, 1, 65, true},
	} {
		c, m := made(t, x.sets, 1)
		put(t, c, m, shared(x.a))
		want := error(nil)
		if x.share {
			want = api.ErrFull
		}
		if c.Room(x.b) == x.share {
			t.Errorf("%d sets, %d there: Room(%d)", x.sets, x.a, x.b)
		}
		if err := c.Put(shared(x.b)); err != want {
			t.Errorf("%d sets, %d there: Put %d is %v", x.sets, x.a, x.b, err)
		}
	}
}

func TestPutTold(t *testing.T) { // P17.1: line, kind, and room, in this order; what can't be put changes nothing
	for _, x := range []struct {
		line, state int
		want        error
	}{
		{-1, api.Shared, api.ErrRange}, {math.MinInt, api.Modified, api.ErrRange}, {-2, api.Owned, api.ErrRange},
		{-1, api.Invalid, api.ErrRange}, {-1, 5, api.ErrRange}, {-4, -1, api.ErrRange}, // ahead of its kind
		{0, api.Invalid, api.ErrKind}, {0, 5, api.ErrKind}, {0, -1, api.ErrKind}, {0, math.MaxInt, api.ErrKind}, {0, math.MinInt, api.ErrKind}, {0, 1<<32 + 1, api.ErrKind}, {0, 1<<8 + 1, api.ErrKind}, // though it is there
		{1, api.Invalid, api.ErrKind}, {1, 5, api.ErrKind}, {1, -3, api.ErrKind}, // though it has room
		{4, api.Invalid, api.ErrKind}, {4, 5, api.ErrKind}, {6, -1, api.ErrKind}, // ahead of its room
		{4, api.Shared, api.ErrFull}, {6, api.Modified, api.ErrFull}, {1 << 40, api.Owned, api.ErrFull},
	} {
		c, m := made(t, 2, 2)
		put(t, c, m, entry(0, api.Owned), shared(2), shared(3))
		for range 2 {
			if err := c.Put(entry(x.line, x.state)); err != x.want {
				t.Errorf("Put of %d, %d: %v", x.line, x.state, err)
			}
			check(t, c, m)
		}
	}
}

func TestPutAnew(t *testing.T) { // P17.1: of one that is there state and data are these, in a full set too, and it is used
	for _, from := range states() {
		for _, to := range states() {
			c, m := made(t, 1, 2)
			put(t, c, m, entry(5, from), entry(6, from))
			e := cache.Entry{Line: 5, State: to, Data: api.Line{9, 8, 7, 6}}
			if err := c.Put(e); err != nil {
				t.Fatal(err)
			}
			if got, is := c.Find(5); got != e || !is {
				t.Errorf("%v, not %v", got, e)
			}
			if got := order(t, c, 0); !slices.Equal(got, []int{6, 5}) {
				t.Error(got)
			}
			m.put(e)
			check(t, c, m)
			// The same once more, without data: they are 0.
			put(t, c, m, cache.Entry{Line: 5, State: to})
			check(t, c, m)
		}
	}
}

func TestFarLines(t *testing.T) { // P17.1: a line is as far up as a number goes
	c, m := made(t, 4, 8)
	for i, line := range far() {
		put(t, c, m, entry(line, states()[i%4]))
		check(t, c, m)
	}
	used(t, c, m, math.MaxInt, 1<<32)
	dropped(t, c, m, math.MaxInt-64, 1<<32+2)
	put(t, c, m, shared(2), shared(1<<32+6))
	check(t, c, m)
}

func TestDrop(t *testing.T) { // P17.1: it is no more, all else stays as it was, and there is room again
	lines := []int{3, 7, 11, 15}
	for _, gone := range lines {
		c, m := made(t, 4, 4)
		put(t, c, m, shared(3), shared(7), shared(11), shared(15), shared(2))
		for range 2 {
			dropped(t, c, m, gone)
			check(t, c, m)
		}
		if _, is := c.Find(gone); is || c.Use(gone) || c.Len() != 4 || !c.Room(19) {
			t.Errorf("%d: it is there", gone)
		}
		if got := order(t, c, 3); !slices.Equal(got, slices.DeleteFunc(slices.Clone(lines), func(l int) bool { return l == gone })) {
			t.Error(got)
		}
		// It comes in as the last that was used, whatever it was before.
		put(t, c, m, entry(gone, api.Modified))
		if l := order(t, c, 3); len(l) != 4 || l[3] != gone {
			t.Error(l)
		}
		check(t, c, m)
	}
}

func TestUse(t *testing.T) { // P17.1: of its set the last, and of no other set
	for sets := 1; sets <= 4; sets *= 2 {
		for way := range 8 {
			c, m := made(t, sets, 8)
			for line := range 8 * sets {
				put(t, c, m, shared(line))
			}
			line := way*sets + sets - 1
			if !c.Use(line) {
				t.Error("Use")
			}
			m.use(line)
			check(t, c, m)
			if l := order(t, c, line); len(l) != 8 || l[7] != line {
				t.Errorf("%d sets, used %d: %v", sets, line, l)
			}
			used(t, c, m, line, 0, line, 8*sets, -1, -sets)
			check(t, c, m)
		}
	}
}

func TestWhatUses(t *testing.T) { // P17.1, P17.2: Use and Put use a line; to look at it, in whatever way, does not
	c, m := made(t, 2, 3)
	put(t, c, m, shared(0), shared(2), shared(4), shared(1))
	for range 3 {
		c.Find(0)
		c.Room(0)
		c.Victim(0)
		c.Victim(2, 0)
		c.All()
		c.Len()
		c.Put(shared(6))
		c.Put(entry(0, api.Invalid))
		c.Drop(8)
		c.Use(8)
		if got := order(t, c, 0); !slices.Equal(got, []int{0, 2, 4}) {
			t.Error(got)
		}
		check(t, c, m)
	}
	put(t, c, m, shared(0))
	if got := order(t, c, 0); !slices.Equal(got, []int{2, 4, 0}) {
		t.Error(got)
	}
	used(t, c, m, 2)
	if got := order(t, c, 0); !slices.Equal(got, []int{4, 0, 2}) {
		t.Error(got)
	}
}

func TestRoom(t *testing.T) { // P17.1: it is there, or its set has room; no line below 0 has any
	c, m := made(t, 4, 2)
	put(t, c, m, shared(1), shared(5), shared(2))
	for line, want := range []bool{true, true, true, true, true, true, true, true, true, false, true, true, true, false} {
		if got := c.Room(line); got != want {
			t.Errorf("Room(%d) is %v", line, got)
		}
	}
	for _, line := range below() {
		if c.Room(line) {
			t.Errorf("Room(%d)", line)
		}
	}
}

func TestBelow(t *testing.T) { // P17.1, P17.2, P0.7: there is no line below 0, in an empty cache as in a full one
	for _, sets := range []int{1, 2, 64} {
		c, m := made(t, sets, 2)
		for n := range 3 {
			for _, line := range below() {
				if err := c.Put(shared(line)); err != api.ErrRange {
					t.Errorf("Put(%d) is %v", line, err)
				}
				used(t, c, m, line)
				dropped(t, c, m, line)
				checkLine(t, c, m, line)
				if got, is := c.Victim(line, 0, line); got != (cache.Entry{}) || is {
					t.Errorf("Victim(%d) is %v %v", line, got, is)
				}
			}
			check(t, c, m)
			for line := range sets {
				put(t, c, m, shared(n*sets+line))
			}
		}
	}
}

func TestVictim(t *testing.T) { // P17.2: of all that may be named not to be one, by the order in which they were used
	c, m := made(t, 2, 4)
	put(t, c, m, entry(6, api.Modified), entry(0, api.Owned), shared(4), entry(2, api.Exclusive), shared(3))
	used(t, c, m, 0)
	lines := []int{6, 4, 2, 0}
	for bits := range 16 {
		var not []int
		want, is := cache.Entry{}, false
		for i, line := range lines {
			if bits>>i&1 != 0 {
				not = append(not, line)
				continue
			}
			if !is {
				want, is = m.there[line].e, true
			}
		}
		slices.Reverse(not)
		for _, line := range []int{0, 2, 8, 1 << 40} {
			if got, there := c.Victim(line, not...); got != want || there != is {
				t.Errorf("Victim(%d, %v) is %v %v, not %v %v", line, not, got, there, want, is)
			}
			// What is not in that set, or is named twice, makes nothing else of it.
			more := slices.Concat([]int{3, 8, -1, -6, math.MinInt, math.MaxInt}, not, not)
			if got, there := c.Victim(line, more...); got != want || there != is {
				t.Errorf("Victim(%d, %v) is %v %v, not %v %v", line, more, got, there, want, is)
			}
		}
	}
	if got, is := c.Victim(1); got != shared(3) || !is {
		t.Error(got, is)
	}
	if got, is := c.Victim(1, 3); got != (cache.Entry{}) || is {
		t.Error(got, is)
	}
	check(t, c, m)
}

func TestVictimOfASetWithRoom(t *testing.T) { // P17.2: there is one, though the set has room, and though the line is there
	c, m := made(t, 2, 8)
	put(t, c, m, shared(4))
	for _, line := range []int{0, 2, 4, 6} {
		if got, is := c.Victim(line); got != shared(4) || !is {
			t.Errorf("Victim(%d) is %v %v", line, got, is)
		}
	}
	if got, is := c.Victim(5); got != (cache.Entry{}) || is {
		t.Error(got, is)
	}
	put(t, c, m, shared(2))
	if got, is := c.Victim(4); got != shared(4) || !is {
		t.Error(got, is)
	}
	check(t, c, m)
}

func TestAll(t *testing.T) { // P17.2: by rising line, in whatever order and sets they came
	lines := []int{70, 3, 1 << 40, 0, 64, 1, math.MaxInt, 66, 2, 128}
	for sets := 2; sets <= 64; sets *= 2 {
		c, m := made(t, sets, 8)
		for i, line := range lines {
			put(t, c, m, entry(line, states()[i%4]))
			check(t, c, m)
		}
		var got []int
		for _, e := range c.All() {
			got = append(got, e.Line)
		}
		if !slices.Equal(got, []int{0, 1, 2, 3, 64, 66, 70, 128, 1 << 40, math.MaxInt}) || c.Len() != 10 {
			t.Errorf("%d sets: %v, %d", sets, got, c.Len())
		}
	}
}
