package home_test

import (
	"maps"
	"math"
	"slices"
	"testing"

	"corral/api"
	"corral/home"
)

// line is the line of the homes here, where a test names no other one.
const line = 7

// first is what memory has of it at first.
func first() api.Line { return api.Line{1, 2, 3, 0xFFFFFFFF} }

// up is a message to the home, down is one from it.
func up(kind, from int) api.Msg { return api.Msg{Kind: kind, Line: line, From: from, To: -1} }

func down(kind, to int) api.Msg { return api.Msg{Kind: kind, Line: line, From: -1, To: to} }

// with is m with data, that are told to be there.
func with(m api.Msg, d api.Line) api.Msg {
	m.Data, m.Has = d, true
	return m
}

func dirty(m api.Msg) api.Msg {
	m.Dirty = true
	return m
}

func alone(m api.Msg) api.Msg {
	m.Alone = true
	return m
}

// kinds is all kinds of messages.
func kinds() []int {
	return []int{api.GetS, api.GetM, api.Put, api.Inv, api.Share, api.Take, api.Data, api.Grant, api.PutAck, api.Ack, api.Back, api.Done}
}

// below is numbers below 0, and far ones that are small ones but for bits far up.
func below() []int {
	return []int{-1, -2, -3, -8, -256, -1 << 32, -1<<32 + 1, math.MinInt32, math.MinInt + 1, math.MinInt}
}

func far() []int {
	return []int{1 << 8, 1<<8 + 1, 1 << 16, 1 << 31, 1<<31 + 1, 1 << 32, 1<<32 + 1, 1 << 62, math.MaxInt - 1, math.MaxInt}
}

// known is what a home knows of its line.
type known struct {
	data    api.Line
	owner   int
	sharers map[int]bool
}

// model is a home as the chapter tells it: what it knew when it was last not busy, and what it took since then.
type model struct {
	line, harts int
	was         known
	since       []api.Msg
}

func (m *model) clone() *model {
	c := *m
	c.was.sharers = maps.Clone(m.was.sharers)
	c.since = slices.Clone(m.since)
	return &c
}

func (m *model) busy() bool { return len(m.since) > 0 }

// down is a message of the model's line to a hart.
func (m *model) down(kind, to int) api.Msg {
	return api.Msg{Kind: kind, Line: m.line, From: -1, To: to}
}

// left is whom a busy one still waits for, and by which kind of answer.
func (m *model) left() map[int]int {
	l := map[int]int{}
	ask := m.since[0]
	if m.was.owner >= 0 {
		l[m.was.owner] = api.Back
	}
	if ask.Kind == api.GetM {
		for s := range m.was.sharers {
			l[s] = api.Ack
		}
	}
	delete(l, ask.From)
	for _, x := range m.since[1:] {
		delete(l, x.From)
	}
	return l
}

// back is the Back that a busy one took; nothing where there was none.
func (m *model) back() (b api.Msg) {
	for _, x := range m.since[1:] {
		if x.Kind == api.Back {
			b = x
		}
	}
	return b
}

// end is what a busy one knows when it waits for nobody, and what it then sends the hart that it serves.
func (m *model) end() (known, api.Msg) {
	r, b := m.since[0].From, m.back()
	data := with(m.down(api.Data, r), m.was.data)
	if m.since[0].Kind == api.GetM {
		if b.Has {
			data.Data, data.Dirty = b.Data, b.Dirty
		}
		data.Alone = true
		if m.was.owner == r {
			data = m.down(api.Grant, r)
		}
		return known{m.was.data, r, map[int]bool{}}, data
	}
	k := known{m.was.data, -1, maps.Clone(m.was.sharers)}
	k.sharers[r] = true
	if b.Dirty || b.Has {
		data.Data = b.Data
	}
	if b.Dirty {
		k.owner = b.From
	} else if b.Has {
		k.sharers[b.From] = true
	} else if b.Kind == 0 && len(k.sharers) == 1 {
		k.owner, k.sharers, data.Alone = r, map[int]bool{}, true
	}
	return k, data
}

// now is what it knows with all that it took.
func (m *model) now() known {
	if !m.busy() || len(m.left()) > 0 {
		return m.was
	}
	k, _ := m.end()
	return k
}

func (m *model) takes(x api.Msg) bool {
	if x.Line != m.line || x.To != -1 || x.From < 0 || x.From >= m.harts {
		return false
	}
	switch x.Kind {
	case api.GetS, api.GetM, api.Put:
		return !m.busy()
	case api.Ack, api.Back:
		return m.busy() && m.left()[x.From] == x.Kind
	case api.Done:
		return m.busy() && len(m.left()) == 0 && m.since[0].From == x.From
	}
	return false
}

func (m *model) take(x api.Msg) (sent []api.Msg) {
	if !m.takes(x) {
		return nil
	}
	switch x.Kind {
	case api.Put:
		if m.was.owner == x.From && x.Dirty {
			m.was.data = x.Data
		}
		if m.was.owner == x.From {
			m.was.owner = -1
		}
		delete(m.was.sharers, x.From)
		return []api.Msg{m.down(api.PutAck, x.From)}
	case api.Done:
		m.was = m.now()
		m.since = nil
		return nil
	case api.GetS, api.GetM:
		m.since = []api.Msg{x}
		for _, hart := range slices.Sorted(maps.Keys(m.left())) {
			kind := api.Share
			if x.Kind == api.GetM {
				kind = api.Take
			}
			if m.left()[hart] == api.Ack {
				kind = api.Inv
			}
			sent = append(sent, m.down(kind, hart))
		}
	default:
		m.since = append(m.since, x)
	}
	if len(m.left()) == 0 {
		_, last := m.end()
		sent = append(sent, last)
	}
	return sent
}

// made is a home and its model.
func made(t *testing.T, harts int) (*home.Home, *model) {
	t.Helper()
	h := home.New(line, harts, first())
	if h == nil {
		t.Fatal("New answers nil")
	}
	return h, &model{line: line, harts: harts, was: known{first(), -1, map[int]bool{}}}
}

// took hands messages to both, and holds that the home answers what the model does.
func took(t *testing.T, h *home.Home, m *model, l ...api.Msg) {
	t.Helper()
	for _, x := range l {
		is := m.takes(x)
		if h.Takes(x) != is {
			t.Fatalf("Takes(%v) is %v, behind %v", x, !is, m.since)
		}
		want := m.take(x)
		if got := h.Take(x); !slices.Equal(got, want) {
			t.Fatalf("Take(%v) is %v, not %v", x, got, want)
		}
		check(t, h, m)
	}
}

// knows holds all that a home tells, but what it takes, against the model.
func knows(t *testing.T, h *home.Home, m *model) {
	t.Helper()
	k := m.now()
	sharers := slices.Sorted(maps.Keys(k.sharers))
	if h.Owner() != k.owner || !slices.Equal(h.Sharers(), sharers) || h.Data() != k.data || h.Busy() != m.busy() {
		t.Fatalf("it knows %d %v %v %v, not %d %v %v %v, behind %v", h.Owner(), h.Sharers(), h.Data(), h.Busy(), k.owner, sharers, k.data, m.busy(), m.since)
	}
}

// check holds all that a home tells against the model, with what it takes of the first few harts.
func check(t *testing.T, h *home.Home, m *model) {
	t.Helper()
	knows(t, h, m)
	for _, kind := range kinds() {
		for hart := range min(m.harts, 5) + 1 {
			x := up(kind, hart)
			x.Line = m.line
			if got := h.Takes(x); got != m.takes(x) {
				t.Fatalf("Takes(%v) is %v, behind %v", x, got, m.since)
			}
		}
	}
}

// takes hands a home a message and holds it against what is to be sent for it.
func takes(t *testing.T, h *home.Home, x api.Msg, want ...api.Msg) {
	t.Helper()
	if !h.Takes(x) {
		t.Errorf("Takes(%v) is false", x)
	}
	if got := h.Take(x); !slices.Equal(got, want) {
		t.Errorf("Take(%v) is %v, not %v", x, got, want)
	}
}

// refuses hands a home messages that it does not take, and holds that nothing comes of them.
func refuses(t *testing.T, h *home.Home, l ...api.Msg) {
	t.Helper()
	owner, sharers, data, busy := h.Owner(), h.Sharers(), h.Data(), h.Busy()
	for _, x := range l {
		if h.Takes(x) {
			t.Errorf("Takes(%v) is true", x)
		}
		if got := h.Take(x); len(got) > 0 {
			t.Errorf("Take(%v) is %v", x, got)
		}
		has(t, h, owner, sharers, data, busy)
	}
}

// has holds a home against what it has to know.
func has(t *testing.T, h *home.Home, owner int, sharers []int, data api.Line, busy bool) {
	t.Helper()
	if h.Owner() != owner || !slices.Equal(h.Sharers(), sharers) || h.Data() != data || h.Busy() != busy {
		t.Errorf("it knows %d %v %v %v, not %d %v %v %v", h.Owner(), h.Sharers(), h.Data(), h.Busy(), owner, sharers, data, busy)
	}
}

// shared is a home of so many harts that those are the sharers of, and nobody the owner.
func shared(t *testing.T, harts int, sharers ...int) *home.Home {
	t.Helper()
	h := owned(t, harts, sharers[0])
	for _, s := range sharers[1:] {
		h.Take(up(api.GetS, s))
		h.Take(with(up(api.Back, sharers[0]), first()))
		h.Take(up(api.Done, s))
	}
	if len(sharers) == 1 { // by another one that shares it for a while
		other := (sharers[0] + 1) % harts
		h.Take(up(api.GetS, other))
		h.Take(with(up(api.Back, sharers[0]), first()))
		h.Take(up(api.Done, other))
		h.Take(up(api.Put, other))
	}
	has(t, h, -1, slices.Sorted(slices.Values(sharers)), first(), false)
	return h
}

// owned is a home of so many harts of which one is the owner, and has written; others are sharers.
func owned(t *testing.T, harts, owner int, sharers ...int) *home.Home {
	t.Helper()
	h := home.New(line, harts, first())
	h.Take(up(api.GetM, owner))
	h.Take(up(api.Done, owner))
	for _, s := range sharers {
		h.Take(up(api.GetS, s))
		h.Take(dirty(with(up(api.Back, owner), first())))
		h.Take(up(api.Done, s))
	}
	has(t, h, owner, slices.Sorted(slices.Values(sharers)), first(), false)
	return h
}
