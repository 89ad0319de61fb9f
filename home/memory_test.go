package home_test

import (
	"slices"
	"testing"

	"corral/api"
	"corral/home"
)

// moment is a home, with a few messages that it takes one after the other.
type moment struct {
	h *home.Home
	l []api.Msg
}

// moments is homes of all sorts, busy ones and others.
func moments(t *testing.T) []moment {
	behind := func(h *home.Home, l ...api.Msg) *home.Home {
		for _, x := range l {
			takes(t, h, x, h.Clone().Take(x)...)
		}
		return h
	}
	back := dirty(with(up(api.Back, 1), api.Line{4, 4}))
	return []moment{
		{home.New(line, 4, first()), []api.Msg{up(api.GetS, 1), up(api.Done, 1), up(api.GetS, 2)}},
		{shared(t, 4, 0, 1, 3), []api.Msg{up(api.GetS, 2), up(api.Done, 2), up(api.Put, 0), up(api.GetM, 1), up(api.Ack, 2)}},
		{owned(t, 4, 1, 0, 3), []api.Msg{up(api.Put, 3), up(api.GetS, 2), back, up(api.Done, 2), up(api.Put, 0)}},
		{behind(shared(t, 4, 0, 1, 3), up(api.GetM, 2)), []api.Msg{up(api.Ack, 1), up(api.Ack, 0), up(api.Ack, 3), up(api.Done, 2)}},
		{behind(shared(t, 4, 0, 1, 3), up(api.GetM, 2), up(api.Ack, 0)), []api.Msg{up(api.Ack, 1), up(api.Ack, 3), up(api.Done, 2), up(api.GetS, 0)}},
		{behind(owned(t, 4, 1, 0, 3), up(api.GetM, 2), up(api.Ack, 0), back), []api.Msg{up(api.Ack, 3), up(api.Done, 2), up(api.Put, 2)}},
		{behind(owned(t, 4, 1, 0, 3), up(api.GetM, 1)), []api.Msg{up(api.Ack, 3), up(api.Ack, 0), up(api.Done, 1)}},
		{behind(owned(t, 4, 1, 3), up(api.GetS, 0)), []api.Msg{with(up(api.Back, 1), api.Line{4, 4}), up(api.Done, 0), up(api.Put, 1)}},
		{behind(owned(t, 4, 1, 3), up(api.GetS, 0), back), []api.Msg{up(api.Done, 0), up(api.Put, 0), dirty(with(up(api.Put, 1), first()))}},
		{behind(owned(t, 4, 1, 3), up(api.GetM, 0), up(api.Ack, 3), up(api.Back, 1)), []api.Msg{up(api.Done, 0), up(api.GetM, 0)}},
	}
}

// told is all that a home tells, and sends for a list of messages: of a clone of it.
type told struct {
	owner   int
	sharers []int
	data    api.Line
	busy    bool
	takes   []bool
	sent    [][]api.Msg
}

func tell(h *home.Home, l []api.Msg) told {
	x := told{owner: h.Owner(), sharers: h.Sharers(), data: h.Data(), busy: h.Busy()}
	for _, kind := range kinds() {
		for hart := range 4 {
			x.takes = append(x.takes, h.Takes(up(kind, hart)))
		}
	}
	c := h.Clone()
	for _, m := range l {
		x.sent = append(x.sent, c.Take(m))
	}
	return x
}

func same(a, b told) bool {
	return a.owner == b.owner && slices.Equal(a.sharers, b.sharers) && a.data == b.data && a.busy == b.busy &&
		slices.Equal(a.takes, b.takes) && slices.EqualFunc(a.sent, b.sent, slices.Equal)
}

func TestClone(t *testing.T) { // P18.2: a clone does what the home would, and neither shows what becomes of the other
	for _, at := range moments(t) {
		h, l := at.h, at.l
		before := tell(h, l)
		c := h.Clone()
		if got := tell(c, l); !same(got, before) {
			t.Fatalf("a clone tells %v, not %v", got, before)
		}
		for i, x := range l { // the one goes on
			if !c.Takes(x) {
				t.Fatalf("%v is not taken", x)
			}
			c.Take(x)
			if got := tell(h, l); !same(got, before) {
				t.Fatalf("behind %v of its clone, it tells %v, not %v", l[:i+1], got, before)
			}
		}
		after := tell(c, nil)
		for _, x := range l { // then the other one
			h.Take(x)
			if got := tell(c, nil); !same(got, after) {
				t.Fatalf("a clone tells %v, not %v", got, after)
			}
		}
		if got := tell(h, nil); !same(got, after) {
			t.Fatalf("it tells %v, its clone %v", got, after)
		}
	}
}

func TestCloneOfMany(t *testing.T) { // P18.2: nor where there is spare room behind what it has
	h := shared(t, 9, 0, 1, 2, 3, 4)
	a, b := h.Clone(), h.Clone()
	for i, c := range []*home.Home{a, h, b} {
		c.Take(up(api.GetS, 5+i))
		c.Take(up(api.Done, 5+i))
	}
	for i, c := range []*home.Home{a, h, b} {
		has(t, c, -1, []int{0, 1, 2, 3, 4, 5 + i}, first(), false)
	}
	for i, c := range []*home.Home{a, h, b} {
		c.Take(up(api.Put, i))
	}
	for i, c := range []*home.Home{a, h, b} {
		has(t, c, -1, slices.Delete([]int{0, 1, 2, 3, 4, 5 + i}, i, i+1), first(), false)
	}
}

func TestAnew(t *testing.T) { // P0.4: whatever is written into a list, or appended to it, no other one shows it, nor the home
	for _, at := range moments(t) {
		h, l := at.h, at.l
		for _, x := range append([]api.Msg{{}}, l...) {
			h.Take(x)
			want := tell(h, l)
			a, b := h.Sharers(), h.Sharers()
			whole := a[:cap(a)]
			for i := range whole {
				whole[i] = 3 - i
			}
			_ = append(a, 9, 9, 9)
			if !slices.Equal(b, want.sharers) {
				t.Error("another list shows it")
			}
			if got := tell(h, l); !same(got, want) {
				t.Errorf("it tells %v, not %v", got, want)
			}
		}
	}
}

func TestToldStays(t *testing.T) { // P0.4: what was told stays, whatever becomes of the home
	h := shared(t, 6, 0, 1, 2, 3)
	sharers := h.Sharers()
	spare := slices.Clone(sharers[:cap(sharers)])
	h.Take(up(api.Put, 1))
	h.Take(up(api.GetS, 4))
	h.Take(up(api.Done, 4))
	sent := h.Take(up(api.GetM, 5))
	was := slices.Clone(sent[:cap(sent)])
	for _, s := range []int{0, 2, 3, 4} {
		h.Take(up(api.Ack, s))
	}
	h.Take(up(api.Done, 5))
	if !slices.Equal(sharers[:cap(sharers)], spare) || !slices.Equal(sent[:cap(sent)], was) {
		t.Error(sharers, sent)
	}
}

func TestSentIsNobodyElses(t *testing.T) { // P0.4: so too the list of what is sent
	for _, at := range moments(t) {
		h, l := at.h, at.l
		for i, x := range l {
			c := h.Clone()
			a, b := h.Take(x), c.Take(x)
			want := slices.Clone(b)
			for j := range a[:cap(a)] {
				a[:cap(a)][j] = up(api.Put, 3)
			}
			_ = append(a, up(api.Put, 2), up(api.Put, 1))
			if !slices.Equal(b, want) {
				t.Error("another list shows it")
			}
			if !same(tell(h, l[i+1:]), tell(c, l[i+1:])) {
				t.Error("the home shows it")
			}
		}
	}
}

func TestApart(t *testing.T) { // P0.5: homes that stand side by side have nothing to do with each other
	a, x := made(t, 3)
	b, y := made(t, 3)
	took(t, a, x, up(api.GetM, 1))
	check(t, b, y)
	took(t, b, y, up(api.GetS, 0), up(api.Done, 0), up(api.GetM, 2))
	check(t, a, x)
	took(t, a, x, up(api.Done, 1), dirty(with(up(api.Put, 1), api.Line{8})))
	check(t, b, y)
}
