package wmo_test

import (
	"slices"
	"testing"

	"corral/api"
	"corral/wmo"
)

// many is as many operations as there may be.
const many = 20000

// line is the operations of one hart, in order.
func line(h, n int) []wmo.Ref {
	var order []wmo.Ref
	for i := range n {
		order = append(order, wmo.Ref{Hart: h, At: i})
	}
	return order
}

func TestManyFree(t *testing.T) { // P14.2: a long list of which nothing has to stay in order, turned round
	var l []api.Op
	for n := range many {
		l = append(l, write(uint32(4*n), 1))
	}
	order := line(0, many)
	slices.Reverse(order)
	if err := wmo.Check(harts(l), order, zero); err != nil {
		t.Error(err)
	}
	// The two that lie at the list's ends meet.
	l[many-1].Addr = 0
	if err := wmo.Check(harts(l), order, zero); !same(err, at(many-1, api.ErrOrder)) {
		t.Error(err)
	}
}

func TestManyPairs(t *testing.T) { // P14.2: harts that add one to a word by turns, each reading what the other wrote
	var l [2][]api.Op
	var order []wmo.Ref
	for n := range uint32(many / 2) {
		h := int(n % 2)
		order = append(order, wmo.Ref{Hart: h, At: len(l[h])}, wmo.Ref{Hart: h, At: len(l[h]) + 1})
		l[h] = append(l[h], lr(0, n), sc(0, n+1))
	}
	if err := wmo.Check(l[:], order, zero); err != nil {
		t.Error(err)
	}
	// The last Lr comes ahead of the other hart's last Sc, and reads what was there before it.
	order[many-3], order[many-2] = order[many-2], order[many-3]
	l[1][len(l[1])-2].Got = many/2 - 2
	if err := wmo.Check(l[:], order, zero); !same(err, at(many-1, api.ErrOrder)) {
		t.Error(err)
	}
}

func TestManyBuffered(t *testing.T) { // P14.2: a hart that reads all that it wrote while no other sees any of it
	var l []api.Op
	for n := range uint32(many / 2) {
		l = append(l, write(4*n, n))
	}
	for n := range uint32(many / 2) {
		l = append(l, read(4*n, n))
	}
	order := slices.Concat(line(0, many)[many/2:], line(0, many/2))
	if err := wmo.Check(harts(l), order, zero); err != nil {
		t.Error(err)
	}
	l[many/2+7].Got = 8
	if err := wmo.Check(harts(l), order, zero); !same(err, at(7, api.ErrValue)) {
		t.Error(err)
	}
}
