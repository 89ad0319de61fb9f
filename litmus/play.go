package litmus

import (
	"corral/api"
	"corral/ppo"
	"corral/wmo"
)

// most is how many operations there may be that are no Barriers.
const most = 7

// set is some of a play's operations, a bit each.
type set uint8

// play is operations that are to be laid in every order that may be. Its lists are gone through for each of these, so they have neither Barriers, of which there may be thousands, nor Deps: what these keep in order ahead tells.
type play struct {
	harts  [][]api.Op // their Got is what they read in the order at hand
	refs   []wmo.Ref  // all of them, hart by hart
	ahead  []set      // of each of refs: those that have to stay ahead of it
	paired bool       // whether there is an Sc
}

func newPlay(harts [][]api.Op) (*play, error) {
	if err := wmo.Valid(harts); err != nil {
		return nil, err
	}
	if many(harts) {
		return nil, api.ErrMany
	}
	p := &play{}
	for _, l := range harts {
		p.add(l)
	}
	return p, nil
}

func many(harts [][]api.Op) bool {
	n := 0
	for _, l := range harts {
		for i := range l {
			if l[i].Kind != api.Barrier {
				n++
			}
		}
	}
	return n > most
}

// add takes one more hart's operations.
func (p *play) add(l []api.Op) {
	var bare []api.Op
	var places []int
	before := len(p.refs)
	for b, o := range l {
		if o.Kind == api.Barrier {
			continue
		}
		p.refs = append(p.refs, wmo.Ref{Hart: len(p.harts), At: len(bare)})
		p.ahead = append(p.ahead, kept(l, places, b)<<before)
		p.paired = p.paired || o.Paired && o.Kind == api.Write
		o.AddrDeps, o.DataDeps, o.Ctrl = nil, nil, nil
		bare, places = append(bare, o), append(places, b)
	}
	p.harts = append(p.harts, bare)
}

// kept is those of places, the first of them the lowest bit, that have to stay ahead of b.
func kept(l []api.Op, places []int, b int) set {
	var s set
	for n, a := range places {
		// Of would look at Barriers, too, each with all that lie ahead of it.
		if ppo.Why(l, a, b) != 0 {
			s |= 1 << n
		}
	}
	return s
}

// runs goes through the orders that may be, and tells what was read in each, in new memory.
func (p *play) runs(yield func(got []uint32) bool) {
	p.extend(make([]wmo.Ref, 0, most), 0, func(order []wmo.Ref) bool {
		p.read(order)
		return !p.stands(order) || yield(p.got())
	})
}

// extend goes through the orders that begin so, and are as ppo has it; laid is those that are in it. It ends with false where yield does.
func (p *play) extend(order []wmo.Ref, laid set, yield func([]wmo.Ref) bool) bool {
	if len(order) == len(p.refs) {
		return yield(order)
	}
	for n, r := range p.refs {
		one := set(1) << n
		if laid&one != 0 || p.ahead[n]&^laid != 0 {
			continue
		}
		if !p.extend(append(order, r), laid|one, yield) {
			return false
		}
	}
	return true
}

// stands tells whether paired ones stand as they have to: all else that Check asks is so already.
func (p *play) stands(order []wmo.Ref) bool {
	return !p.paired || wmo.Check(p.harts, order, zero) == nil
}

// zero is memory as it is at first.
func zero(uint32) byte { return 0 }
