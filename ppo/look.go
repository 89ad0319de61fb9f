package ppo

import "corral/api"

// rule is why an operation a has to stay ahead of another one, b, by its number in the chapter.
type rule uint8

const (
	free        rule = iota // it has not
	overwritten             // b writes a byte that a has
	readAgain               // both read, and none between writes what both have
	readAtomic              // b reads a byte of a, that is Both or an Sc
	fenced                  // a Barrier lies between
	acquired                // a has Aq
	released                // b has Rl
	marked                  // each has one of the two
	paired                  // a is the Lr of b
	byAddress               // b's address hangs on a
	byData                  // its data do
	byControl               // b writes, and whether it is come to does
	handedOn                // b reads what one between wrote that hangs on a
	behindOne               // b writes, and the address of one between hangs on a
)

// trait is what is asked of operations, a bit each. The first two are the bits of Pred and Succ.
type trait uint8

const (
	reads trait = 1 << iota
	writes
	barrier
	access   // is no Barrier
	atomic   // is Both, or an Sc
	acquires // has Aq
	releases // has Rl
	leads    // is in the AddrDeps of one behind it
)

// act is the bytes and the traits of an operation: little, since each is held against all those behind it.
type act struct {
	span
	is trait
}

func actOf(o *api.Op) act {
	x := act{spanOf(o), access}
	switch o.Kind {
	case api.Read:
		x.is |= reads
	case api.Write:
		x.is |= writes
	case api.Both:
		x.is |= reads | writes | atomic
	case api.Barrier:
		return act{is: barrier}
	}
	if o.Paired && x.is&writes != 0 {
		x.is |= atomic
	}
	if o.Aq {
		x.is |= acquires
	}
	if o.Rl {
		x.is |= releases
	}
	return x
}

// look goes back from an operation, b, over those ahead of it.
type look struct {
	l      []api.Op
	acts   []act
	pairs  []int
	rules  []rule // of each that was passed: why it has to stay ahead of b
	hangs  []rule // of each: why, by how b and those that were passed hang on it
	b      act
	keeps  trait  // what has one of these has to stay ahead of b, whatever its bytes
	hidden []span // what those that were passed have written, where b reads
}

func lookAt(l []api.Op) *look {
	k := &look{l: l, acts: make([]act, len(l)), pairs: Pairs(l), rules: make([]rule, len(l)), hangs: make([]rule, len(l))}
	for n := range l {
		k.acts[n] = actOf(&l[n])
	}
	return k
}

// lead marks those that m's address hangs on: m lies ahead of each b to come.
func (k *look) lead(m int) {
	for _, a := range k.l[m].AddrDeps {
		if 0 <= a && a < m {
			k.acts[a].is |= leads
		}
	}
}

// back goes from b to first, and finds the rules. Each one ahead of b was given to lead before.
func (k *look) back(b, first int) {
	clear(k.rules[:b])
	if k.acts[b].is&barrier != 0 {
		return
	}
	k.begin(b)
	for a := b - 1; a >= first; a-- {
		x := &k.acts[a]
		switch {
		case x.is&barrier != 0:
			k.fence(&k.l[a])
		case x.is&k.keeps != 0 || k.hangs[a] != free || x.meets(k.b.span):
			k.rules[a] = k.why(x, k.hangs[a])
			k.pass(x, &k.l[a])
		}
	}
}

// begin stands at b, with nothing passed.
func (k *look) begin(b int) {
	k.b, k.keeps, k.hidden = k.acts[b], acquires, k.hidden[:0]
	if k.b.is&releases != 0 {
		k.keeps |= access
	}
	if k.b.is&(acquires|releases) != 0 {
		k.keeps |= releases
	}
	if k.b.is&writes != 0 {
		k.keeps |= leads
	}
	clear(k.hangs[:b])
	k.note(paired, k.pairs[b])
	k.note(byAddress, k.l[b].AddrDeps...)
	k.note(byData, k.l[b].DataDeps...)
	if k.b.is&writes != 0 {
		k.note(byControl, k.l[b].Ctrl...)
	}
}

// note is that r holds for these. Rules are noted by rising number, so what was noted stands. Places that are no longer, or not yet, looked at do no harm.
func (k *look) note(r rule, places ...int) {
	for _, a := range places {
		if 0 <= a && a < len(k.hangs) && k.hangs[a] == free {
			k.hangs[a] = r
		}
	}
}

// fence passes a Barrier.
func (k *look) fence(o *api.Op) {
	const sorts = reads | writes
	if k.b.is&trait(o.Succ)&sorts != 0 {
		k.keeps |= trait(o.Pred) & sorts
	}
}

// pass passes an operation: what b reads of it is noted, if none behind it wrote there, and what it writes is hidden from those ahead of it.
func (k *look) pass(x *act, o *api.Op) {
	if x.is&writes == 0 || k.b.is&reads == 0 || !x.meets(k.b.span) {
		return
	}
	if k.sees(x) {
		k.note(handedOn, o.AddrDeps...)
		k.note(handedOn, o.DataDeps...)
	}
	k.hide(x.span)
}

// sees tells whether none that was passed writes a byte that x and b have.
func (k *look) sees(x *act) bool {
	for _, s := range k.hidden {
		if share(x.span, k.b.span, s) {
			return false
		}
	}
	return true
}

// hide is that s was written. What lies within one that is hidden already is left out: so these stay few where sizes are small, however many write.
func (k *look) hide(s span) {
	for _, h := range k.hidden {
		if s.within(h) {
			return
		}
	}
	k.hidden = append(k.hidden, s)
}

// why is the first rule by which x has to stay ahead of b, where all between was passed, and hangs is the one by what hangs on it.
func (k *look) why(x *act, hangs rule) rule {
	if r := k.whyMeeting(x); r != free {
		return r
	}
	held := x.is & k.keeps
	switch {
	case held&(reads|writes) != 0:
		return fenced
	case held&acquires != 0:
		return acquired
	case held&access != 0:
		return released
	case held&releases != 0:
		return marked
	case hangs != free:
		return hangs
	case held&leads != 0:
		return behindOne
	}
	return free
}

// whyMeeting is the first rule of those for operations that meet.
func (k *look) whyMeeting(x *act) rule {
	switch {
	case !x.meets(k.b.span):
		return free
	case k.b.is&writes != 0:
		return overwritten
	case k.b.is&reads == 0:
		return free
	case x.is&reads != 0 && k.sees(x):
		return readAgain
	case x.is&atomic != 0:
		return readAtomic
	}
	return free
}
