package net_test

import (
	"slices"
	"testing"

	"corral/api"
	"corral/net"
)

// mixed is a net with three messages of each class on their way, of numbers that stand apart.
func mixed(t *testing.T) (*net.Net, *model) {
	n, m := made(t, 2, 9)
	for line := range 4 {
		for _, kind := range kindsOf() {
			sent(t, n, m, whole(kind, line%2, line))
		}
	}
	for id := range 3 {
		taken(t, n, m, 4*id)
	}
	return n, m
}

func TestEach(t *testing.T) { // P16.2: those of a class, by number
	n, m := mixed(t)
	check(t, n, m)
	for class, want := range [][]int{{3, 6, 9}, {1, 7, 10}, {2, 5, 11}} {
		if got := ids(over(n, class)); !slices.Equal(got, want) {
			t.Errorf("Each(%d) is %v", class, got)
		}
	}
	for _, class := range append(wrongNumbers(), -1, 3, 4, 12) {
		each := n.Each(class)
		if each == nil || len(over(n, class)) > 0 {
			t.Errorf("Each(%d) is %v", class, over(n, class))
		}
	}
	check(t, n, m)
}

func TestEachBegins(t *testing.T) { // P16.2: as they are when the going over begins, not when Each was called
	n, m := mixed(t)
	each := n.Each(0)
	taken(t, n, m, 6)
	sent(t, n, m, up(api.Put, 0, 8))
	for range 2 {
		var got []int
		for f := range each {
			got = append(got, f.ID)
		}
		if !slices.Equal(got, []int{3, 9, 12}) {
			t.Error(got)
		}
	}
	taken(t, n, m, 3)
	var got []int
	for f := range each {
		got = append(got, f.ID)
	}
	if !slices.Equal(got, []int{9, 12}) {
		t.Error(got)
	}
}

func TestEachWhileChanged(t *testing.T) { // P16.2: what is sent and taken on the way changes the net, and not the going over
	n, m := mixed(t)
	want := over(n, 2)
	var got []net.Flight
	for f := range n.Each(2) {
		got = append(got, f)
		for _, id := range []int{11, 5, 2, 1} {
			taken(t, n, m, id)
		}
		sent(t, n, m, up(api.Ack, 1, f.ID), up(api.GetS, 0, 4))
		check(t, n, m)
	}
	if !slices.Equal(got, want) {
		t.Errorf("%v, not %v", got, want)
	}
	if got := ids(over(n, 2)); !slices.Equal(got, []int{12, 14, 16}) {
		t.Error(got)
	}
}

func TestEachEnds(t *testing.T) { // P16.2: it goes no further when it is told so
	n, m := mixed(t)
	for stop := 1; stop <= 4; stop++ {
		calls := 0
		n.Each(1)(func(net.Flight) bool {
			calls++
			return calls < stop
		})
		if calls != min(stop, 3) {
			t.Errorf("called %d times, told to stop at %d", calls, stop)
		}
	}
	n.Each(0)(nil)
	check(t, n, m)
}

func TestEachNested(t *testing.T) { // P16.2: one going over within another, of the same Each
	n, m := mixed(t)
	each := n.Each(0)
	var got [][2]int
	for f := range each {
		for g := range each {
			if g.ID > f.ID {
				break
			}
			got = append(got, [2]int{f.ID, g.ID})
		}
	}
	if !slices.Equal(got, [][2]int{{3, 3}, {6, 3}, {6, 6}, {9, 3}, {9, 6}, {9, 9}}) {
		t.Error(got)
	}
	check(t, n, m)
}
