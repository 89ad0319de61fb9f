package cache_test

import (
	"slices"
	"testing"

	"corral/api"
	"corral/cache"
)

// filled is a cache with some lines, in two of its sets.
func filled(t *testing.T) (*cache.Cache, *model) {
	c, m := made(t, 4, 3)
	put(t, c, m, shared(8), entry(5, api.Modified), entry(0, api.Owned), shared(1), shared(4))
	used(t, c, m, 8)
	return c, m
}

func TestAnew(t *testing.T) { // P0.4: whatever is written into a list, or appended to it, no other one shows it, nor the cache
	c, m := filled(t)
	want := c.All()
	for range 3 {
		a, b := c.All(), c.All()
		whole := a[:cap(a)]
		for i := range whole {
			whole[i] = entry(99, api.Exclusive)
		}
		if !slices.Equal(b, want) {
			t.Error("another list shows it")
		}
		check(t, c, m)
		_ = append(b, entry(77, api.Owned))
		spare := slices.Clone(b[:cap(b)])
		put(t, c, m, shared(9))
		if !slices.Equal(b[:cap(b)], spare) {
			t.Error("what is put comes into a list that was told")
		}
		check(t, c, m)
		dropped(t, c, m, 9)
	}
	// What was told stays, whatever becomes of the cache.
	before := slices.Clone(want)
	dropped(t, c, m, 5, 8)
	put(t, c, m, entry(0, api.Modified), shared(12), shared(1))
	if !slices.Equal(want, before) {
		t.Error(want)
	}
	check(t, c, m)
}

func TestAnewOfOneSet(t *testing.T) { // P0.4: so too where one set is all that there is
	c, m := made(t, 1, 8)
	put(t, c, m, shared(1), shared(2), shared(3))
	a := c.All()
	clear(a[:cap(a)])
	check(t, c, m)
	put(t, c, m, shared(4))
	used(t, c, m, 1)
	check(t, c, m)
}

func TestArguments(t *testing.T) { // P0.4: what is handed in is neither changed nor kept, and what lies behind its length is not looked at
	c, m := filled(t)
	room := []int{4, 0, 8, 12}
	before := slices.Clone(room)
	if got, is := c.Victim(0, room[:2]...); got != shared(8) || !is {
		t.Error(got, is)
	}
	if got, is := c.Victim(0, room[1:3]...); got != shared(4) || !is {
		t.Error(got, is)
	}
	if got, is := c.Victim(0, room[:0]...); got != entry(0, api.Owned) || !is {
		t.Error(got, is)
	}
	if !slices.Equal(room, before) {
		t.Error("what was handed in is", room)
	}
	clear(room)
	check(t, c, m)
	// An entry is a value: what becomes of it outside is nothing to the cache.
	e := entry(2, api.Shared)
	put(t, c, m, e)
	e.Line, e.State, e.Data[0] = 6, api.Owned, 99
	got, _ := c.Find(2)
	got.State, got.Data[1] = api.Modified, 99
	got, _ = c.Victim(2)
	got.Line, got.Data[2] = 10, 99
	check(t, c, m)
}

func TestApart(t *testing.T) { // P0.5: caches that stand side by side have nothing to do with each other
	a, x := made(t, 2, 2)
	b, y := made(t, 2, 2)
	put(t, a, x, shared(0), shared(2))
	check(t, b, y)
	put(t, b, y, shared(2), shared(0), shared(1))
	used(t, a, x, 0)
	dropped(t, b, y, 2)
	check(t, a, x)
	check(t, b, y)
}
