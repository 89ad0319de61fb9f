package fabric_test

import (
	"slices"
	"testing"

	"corral/api"
	"corral/fabric"
	"corral/net"
)

// busy is a fabric with lines lost, messages on their way, and lines in several states, and its model.
func busy(t *testing.T) (*fabric.Fabric, *model) {
	t.Helper()
	f, m := made(t, fabric.Config{Harts: 3, Sets: 2, Ways: 1, Room: 18}, 6, 1, 2, 3, 4, 5)
	for _, d := range []doing{
		{what: ask, h: 0, line: 0, writes: true}, {what: settle}, {what: write, size: 4, v: 9},
		{what: ask, h: 1, line: 0}, {what: settle},
		{what: ask, h: 0, line: 1, writes: true}, {what: settle},
		{what: ask, h: 2, line: 1, writes: true}, {what: settle},
		{what: ask, h: 0, line: 2}, {what: ask, h: 0, line: 3},
		{what: ask, h: 1, line: 4}, {what: ask, h: 2, line: 3, writes: true},
	} {
		did(t, f, m, d)
	}
	check(t, f, m)
	return f, m
}

func TestAnew(t *testing.T) { // P20.5, P0.4: whatever is written into a list, or appended to it, no other one shows it, nor the fabric
	f, m := busy(t)
	for range 3 {
		a, b := f.Flights(), f.Flights()
		want := slices.Clone(b)
		whole := a[:cap(a)]
		for i := range whole {
			whole[i] = net.Flight{ID: 99}
		}
		_ = append(a, net.Flight{ID: 98})
		if !slices.Equal(b, want) || len(want) < 4 {
			t.Error("another list shows it")
		}
		check(t, f, m)
		for line := range f.Lines() {
			v, _ := f.View(line)
			w, _ := f.View(line)
			states := v.State[:cap(v.State)]
			for i := range states {
				states[i] = 99
			}
			data := v.Data[:cap(v.Data)]
			for i := range data {
				data[i] = api.Line{99, 99, 99, 99}
			}
			_, _ = append(v.State, 98), append(v.Data, api.Line{98})
			if want, _ := m.view(line); !same(w, want) {
				t.Error("another view shows it")
			}
		}
		check(t, f, m)
		did(t, f, m, doing{what: deliver, line: m.way[0].ID})
	}
}

func TestLostAnew(t *testing.T) { // P20.5: what was told as lost is nobody else's, and stays
	f, m := busy(t)
	a := f.Lost(0)
	m.Lost(0)
	if !slices.Equal(a, []int{0, 1}) {
		t.Fatal(a)
	}
	whole := a[:cap(a)]
	for i := range whole {
		whole[i] = 77
	}
	did(t, f, m, doing{what: settle})
	for _, line := range []int{4, 5, 0, 1} {
		did(t, f, m, doing{what: ask, h: 0, line: line})
		did(t, f, m, doing{what: settle})
	}
	b := did(t, f, m, doing{what: lost, h: 0}).list
	if !slices.Equal(b, []int{2, 3, 4, 5}) {
		t.Error(b)
	}
	for _, x := range whole {
		if x != 77 {
			t.Error("what was told is", whole)
		}
	}
	did(t, f, m, doing{what: ask, h: 0, line: 2})
	did(t, f, m, doing{what: lost, h: 0})
	if !slices.Equal(b, []int{2, 3, 4, 5}) {
		t.Error(b)
	}
}

func TestFinalAnew(t *testing.T) { // P20.5, P0.4: the memory that is told is a copy: what is written there the fabric does not show, nor the other way round
	f, m := busy(t)
	a, b := f.Final(), f.Final()
	for addr := uint32(0); a.Store(addr, 4, 0x77777777); addr += 4 {
	}
	if !b.Same(m.last) {
		t.Error("another one shows it")
	}
	check(t, f, m)
	did(t, f, m, doing{what: settle})
	check(t, f, m)
	before := b.Clone()
	did(t, f, m, doing{what: ask, h: 1, line: 5, writes: true})
	did(t, f, m, doing{what: settle})
	if !did(t, f, m, doing{what: write, h: 1, addr: 80, size: 2, v: 5}).is || !b.Same(before) {
		t.Error("what was told shows what was written since")
	}
	for line := range 6 {
		for h := range 3 {
			did(t, f, m, doing{what: read, h: h, addr: uint32(line * api.LineBytes), size: 4})
		}
	}
}

func TestToldStays(t *testing.T) { // P20.5, P0.4: what was told stays, whatever becomes of the fabric
	f, m := busy(t)
	flights, want := f.Flights(), slices.Clone(m.way)
	var views, wants []fabric.View
	for line := range f.Lines() {
		v, _ := f.View(line)
		w, _ := m.view(line)
		views, wants = append(views, v), append(wants, w)
	}
	did(t, f, m, doing{what: settle})
	for h := range 3 {
		for line := range 6 {
			did(t, f, m, doing{what: ask, h: h, line: line, writes: true})
			did(t, f, m, doing{what: settle})
			did(t, f, m, doing{what: write, h: h, addr: uint32(line * api.LineBytes), size: 4, v: 6})
		}
	}
	if !slices.Equal(flights, want) || !slices.EqualFunc(views, wants, same) {
		t.Error(flights, views)
	}
}

func TestApart(t *testing.T) { // P0.5: fabrics that stand side by side, over one memory, have nothing to do with each other
	data := memory(t, 2, 5)
	a, err := fabric.New(small(2, 1), data)
	if err != nil {
		t.Fatal(err)
	}
	b, err := fabric.New(small(2, 1), data)
	if err != nil {
		t.Fatal(err)
	}
	gets(t, a, 0, 0, true)
	puts(t, a, 0, 0, 6)
	asks(t, a, 0, 1, true)
	states(t, b, 0, 0, 0)
	if len(b.Flights()) > 0 || len(b.Lost(0)) > 0 || !b.Final().Same(data) {
		t.Error("the other one shows it")
	}
	gets(t, b, 1, 0, true)
	puts(t, b, 1, 0, 7)
	finally(t, a, 0, 6)
	finally(t, b, 0, 7)
	flies(t, a, api.Put, api.GetM)
	flies(t, b)
}
