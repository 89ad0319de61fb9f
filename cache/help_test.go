package cache_test

import (
	"math"
	"slices"
	"testing"

	"corral/api"
	"corral/cache"
)

// entry is one of that line, with data that no other line and state has.
func entry(line, state int) cache.Entry {
	return cache.Entry{Line: line, State: state, Data: api.Line{uint32(line), ^uint32(line), uint32(line >> 32), 0x80000000 + uint32(state)}}
}

func shared(line int) cache.Entry { return entry(line, api.Shared) }

func states() []int { return []int{api.Shared, api.Exclusive, api.Owned, api.Modified} }

// below is numbers below 0, far ones among them.
func below() []int {
	return []int{-1, -2, -3, -4, -8, -63, -64, -65, -128, -1 << 32, -1<<32 + 2, math.MinInt32, math.MinInt + 1, math.MinInt}
}

// far is numbers far above 0, some of them small ones but for bits far up.
func far() []int {
	return []int{math.MaxInt32, 1 << 31, 1 << 32, 1<<32 + 1, 1<<32 + 2, 1<<32 + 64, 1<<40 + 3, 1 << 62, math.MaxInt - 64, math.MaxInt - 1, math.MaxInt}
}

// model is a cache as the chapter tells it: what is there, and when each was used.
type model struct {
	sets, ways, now int
	there           map[int]stamped
}

type stamped struct {
	e  cache.Entry
	at int
}

// beside is the lines that stand in that line's set.
func (m *model) beside(line int) []stamped {
	var l []stamped
	for other, x := range m.there {
		if line >= 0 && other%m.sets == line%m.sets {
			l = append(l, x)
		}
	}
	return l
}

func (m *model) find(line int) (cache.Entry, bool) {
	x, is := m.there[line]
	return x.e, is
}

func (m *model) use(line int) bool {
	x, is := m.there[line]
	if is {
		m.now++
		m.there[line] = stamped{x.e, m.now}
	}
	return is
}

func (m *model) room(line int) bool {
	_, is := m.there[line]
	return is || line >= 0 && len(m.beside(line)) < m.ways
}

func (m *model) put(e cache.Entry) error {
	if e.Line < 0 {
		return api.ErrRange
	}
	if !slices.Contains(states(), e.State) {
		return api.ErrKind
	}
	if !m.room(e.Line) {
		return api.ErrFull
	}
	m.now++
	m.there[e.Line] = stamped{e, m.now}
	return nil
}

func (m *model) drop(line int) bool {
	_, is := m.there[line]
	delete(m.there, line)
	return is
}

func (m *model) victim(line int, not []int) (cache.Entry, bool) {
	first := stamped{at: math.MaxInt}
	for _, x := range m.beside(line) {
		if x.at < first.at && !slices.Contains(not, x.e.Line) {
			first = x
		}
	}
	return first.e, first.at < math.MaxInt
}

// order is the lines of a set as Victim tells them, one after the other.
func (m *model) order(line int) []int {
	var l []int
	for e, is := m.victim(line, nil); is; e, is = m.victim(line, l) {
		l = append(l, e.Line)
	}
	return l
}

func (m *model) all() []cache.Entry {
	var l []cache.Entry
	for _, x := range m.there {
		l = append(l, x.e)
	}
	slices.SortFunc(l, func(a, b cache.Entry) int {
		if a.Line < b.Line {
			return -1
		}
		return 1
	})
	return l
}

// made is a cache and its model.
func made(t *testing.T, sets, ways int) (*cache.Cache, *model) {
	t.Helper()
	c, err := cache.New(sets, ways)
	if c == nil || err != nil {
		t.Fatalf("New(%d, %d) is %v, %v", sets, ways, c, err)
	}
	return c, &model{sets: sets, ways: ways, there: map[int]stamped{}}
}

// put, used and dropped change both, and hold that the cache says what the model does.
func put(t *testing.T, c *cache.Cache, m *model, l ...cache.Entry) {
	t.Helper()
	for _, e := range l {
		want := m.put(e)
		if err := c.Put(e); err != want {
			t.Fatalf("Put(%v) is %v, not %v", e, err, want)
		}
	}
}

func used(t *testing.T, c *cache.Cache, m *model, l ...int) {
	t.Helper()
	for _, line := range l {
		want := m.use(line)
		if got := c.Use(line); got != want {
			t.Fatalf("Use(%d) is %v", line, got)
		}
	}
}

func dropped(t *testing.T, c *cache.Cache, m *model, l ...int) {
	t.Helper()
	for _, line := range l {
		want := m.drop(line)
		if got := c.Drop(line); got != want {
			t.Fatalf("Drop(%d) is %v", line, got)
		}
	}
}

// order is the lines of a set as the cache's Victim tells them, one after the other.
func order(t *testing.T, c *cache.Cache, line int) []int {
	t.Helper()
	var l []int
	for e, is := c.Victim(line); is; e, is = c.Victim(line, l...) {
		if l = append(l, e.Line); len(l) > 8 {
			t.Fatalf("Victim(%d) tells %v", line, l)
		}
	}
	return l
}

// check holds all that a cache tells against the model, of lines up to some and of those that are there.
func check(t *testing.T, c *cache.Cache, m *model) {
	t.Helper()
	all := m.all()
	if got := c.All(); !slices.Equal(got, all) {
		t.Fatalf("All is %v, not %v", got, all)
	}
	if c.Len() != len(all) {
		t.Fatalf("Len is %d, not %d", c.Len(), len(all))
	}
	for line := -3; line < 2*m.sets+3; line++ {
		checkLine(t, c, m, line)
	}
	for _, e := range all {
		checkLine(t, c, m, e.Line)
	}
}

func checkLine(t *testing.T, c *cache.Cache, m *model, line int) {
	t.Helper()
	want, is := m.find(line)
	if got, there := c.Find(line); got != want || there != is {
		t.Fatalf("Find(%d) is %v %v, not %v %v", line, got, there, want, is)
	}
	if got, want := c.Room(line), m.room(line); got != want {
		t.Fatalf("Room(%d) is %v", line, got)
	}
	want, is = m.victim(line, nil)
	if got, there := c.Victim(line); got != want || there != is {
		t.Fatalf("Victim(%d) is %v %v, not %v %v", line, got, there, want, is)
	}
	if got, want := order(t, c, line), m.order(line); !slices.Equal(got, want) {
		t.Fatalf("the set of %d is %v, not %v", line, got, want)
	}
}
