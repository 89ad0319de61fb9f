package litmus

import (
	"corral/api"
	"corral/wmo"
)

// read lets all that read have Got what they have to in this order.
func (p *play) read(order []wmo.Ref) {
	for n, r := range order {
		if o := &p.harts[r.Hart][r.At]; reads(o) {
			o.Got = p.value(o, seen(order, n))
		}
	}
}

// seen is those of order that the n-th may read from: those ahead of it, and those of its hart that lie ahead of it in the list, which it sees ahead of all others.
func seen(order []wmo.Ref, n int) []wmo.Ref {
	l := append(make([]wmo.Ref, 0, most), order[:n]...)
	for _, r := range order[n+1:] {
		if r.Hart == order[n].Hart && r.At < order[n].At {
			l = append(l, r)
		}
	}
	return l
}

// value is what lies in the bytes of o when these were done. What none wrote is 0, as Last has it.
func (p *play) value(o *api.Op, done []wmo.Ref) uint32 {
	var v uint32
	for i := range o.Size {
		b, _ := wmo.Last(p.harts, done, o.Addr+uint32(i))
		v |= uint32(b) << (8 * i)
	}
	return v
}

// got is what the operations that read have Got, hart by hart.
func (p *play) got() []uint32 {
	var l []uint32
	for _, ops := range p.harts {
		for n := range ops {
			if reads(&ops[n]) {
				l = append(l, ops[n].Got)
			}
		}
	}
	return l
}

func reads(o *api.Op) bool { return o.Kind == api.Read || o.Kind == api.Both }
