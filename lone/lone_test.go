package lone_test

import (
	"math"
	"slices"
	"testing"

	"corral/api"
	"corral/lone"
)

func TestExample(t *testing.T) { // P19.1, P19.2: the chapter's example
	l := lone.New(line, hart)
	sent, is := l.Ask(false)
	sends(t, sent, is, up(api.GetS))
	takes(t, l, alone(with(down(api.Data), first())), false, up(api.Done))
	has(t, l, api.Exclusive, first(), 0)
	if !l.Set(news()) {
		t.Error("Set is false")
	}
	has(t, l, api.Modified, news(), 0)
	takes(t, l, down(api.Share), false, dirty(with(up(api.Back), news())))
	has(t, l, api.Owned, news(), 0)
}

func TestNew(t *testing.T) { // P19.1: Invalid, without data, and it waits for nothing
	for _, n := range append(far(), 0, 1, 7, 4095) {
		for _, h := range append(far(), 0, 1, 3) {
			l := lone.New(n, h)
			has(t, l, api.Invalid, api.Line{}, 0)
			none(t, nil, l.Set(news()))
			sent, is := l.Evict()
			none(t, sent, is)
			sent, is = l.Ask(true)
			sends(t, sent, is, api.Msg{Kind: api.GetM, Line: n, From: h, To: -1})
			has(t, l, api.Invalid, api.Line{}, api.GetM)
		}
	}
}

func TestAsk(t *testing.T) { // P19.1: GetS or GetM, where it waits for nothing and can't
	for _, x := range []struct {
		state int
		write bool
		kind  int
	}{
		{api.Invalid, false, api.GetS},
		{api.Invalid, true, api.GetM},
		{api.Shared, true, api.GetM},
		{api.Owned, true, api.GetM},
	} {
		l := made(t, x.state)
		sent, is := l.Ask(x.write)
		sends(t, sent, is, up(x.kind))
		has(t, l, x.state, first(), x.kind)
		for _, write := range []bool{false, true} { // it waits, so that nothing else can be done
			sent, is = l.Ask(write)
			none(t, sent, is)
		}
		sent, is = l.Evict()
		none(t, sent, is)
		none(t, nil, l.Set(news()))
		has(t, l, x.state, first(), x.kind)
	}
}

func TestAskWhereItCan(t *testing.T) { // P19.1: none, false, and it waits for nothing
	for state := api.Shared; state <= api.Modified; state++ {
		for _, write := range []bool{false, true} {
			if write && (state == api.Shared || state == api.Owned) {
				continue
			}
			l := made(t, state)
			sent, is := l.Ask(write)
			none(t, sent, is)
			has(t, l, state, first(), 0)
		}
	}
}

func TestSet(t *testing.T) { // P19.1: Modified, with these data, if it can be written; else nothing
	for state := api.Invalid; state <= api.Modified; state++ {
		l := made(t, state)
		if state != api.Exclusive && state != api.Modified {
			none(t, nil, l.Set(news()))
			has(t, l, state, first(), 0)
			continue
		}
		for _, d := range []api.Line{news(), news(), {}, first()} { // what it had already, too
			if !l.Set(d) {
				t.Error("Set is false at", state)
			}
			has(t, l, api.Modified, d, 0)
		}
	}
}

func TestEvict(t *testing.T) { // P19.1: Put with the data, Dirty where memory has others; Shared goes untold; Invalid is none
	for state := api.Invalid; state <= api.Modified; state++ {
		l := made(t, state)
		sent, is := l.Evict()
		switch state {
		case api.Invalid:
			none(t, sent, is)
		case api.Shared:
			sends(t, sent, is)
		case api.Exclusive:
			sends(t, sent, is, with(up(api.Put), first()))
		default:
			sends(t, sent, is, dirty(with(up(api.Put), first())))
		}
		if state < api.Exclusive {
			has(t, l, api.Invalid, first(), 0)
			sent, is = l.Ask(false) // it may be asked for at once
			sends(t, sent, is, up(api.GetS))
			continue
		}
		has(t, l, api.Invalid, first(), api.Put)
		sent, is = l.Evict()
		none(t, sent, is)
		for _, write := range []bool{false, true} {
			sent, is = l.Ask(write)
			none(t, sent, is)
		}
		none(t, nil, l.Set(news()))
		takes(t, l, down(api.PutAck), false)
		has(t, l, api.Invalid, first(), 0)
		sent, is = l.Ask(true)
		sends(t, sent, is, up(api.GetM))
	}
}

func TestTakesOfNoOther(t *testing.T) { // P19.2: To is the hart, From -1, and its Line
	for _, at := range situations() {
		l, _ := brought(t, at)
		for _, kind := range kinds() {
			for _, x := range append(far(), -1, 0, 1, line-1, line+1, line^1<<32) {
				m := down(kind)
				m.Line = x
				refuses(t, l, m)
			}
			for _, x := range append(far(), -1, 0, 1, hart+1, hart^1<<32) {
				m := down(kind)
				m.To = x
				refuses(t, l, m)
			}
			for _, x := range append(far(), 0, 1, hart, hart+1) {
				m := down(kind)
				m.From = x
				refuses(t, l, m)
			}
			refuses(t, l, up(kind), api.Msg{Kind: kind})
		}
	}
}

func TestTakesOfKinds(t *testing.T) { // P19.2: what a home sends, and no kind but these
	for _, at := range situations() {
		l, _ := brought(t, at)
		for _, kind := range append(far(), -1, 0, api.GetS, api.GetM, api.Put, api.Ack, api.Back, api.Done, api.Done+1, api.Inv+1<<32) {
			refuses(t, l, down(kind), with(down(kind), news()))
		}
	}
}

func TestTakesOfFarOnes(t *testing.T) { // P19.2: any line and hart are told from all others, and named in what is sent
	for _, n := range append(far(), 0, 7) {
		for _, h := range append(far(), 0, 1) {
			l := lone.New(n, h)
			m := api.Msg{Kind: api.Inv, Line: n, From: -1, To: h}
			takes(t, l, m, false, api.Msg{Kind: api.Ack, Line: n, From: h, To: -1})
			for _, bit := range []int{1, 1 << 8, 1 << 32, 1 << 62, math.MinInt} {
				x, y := m, m
				x.Line ^= bit
				y.To ^= bit
				refuses(t, l, x, y)
			}
		}
	}
}

func TestUnasked(t *testing.T) { // P19.2: Data, Grant and PutAck are taken only where they are waited for
	for state := api.Invalid; state <= api.Modified; state++ {
		l := made(t, state)
		refuses(t, l, with(down(api.Data), news()), alone(with(down(api.Data), news())), dirty(with(down(api.Data), news())), down(api.Grant), down(api.PutAck))
	}
	l := made(t, api.Invalid)
	l.Ask(false)
	refuses(t, l, down(api.Grant), down(api.PutAck))
	l = made(t, api.Invalid)
	l.Ask(true)
	refuses(t, l, down(api.Grant), down(api.PutAck)) // there are no data that could be granted
	for _, state := range []int{api.Shared, api.Owned} {
		l = made(t, state)
		l.Ask(true)
		refuses(t, l, down(api.PutAck))
	}
	for _, state := range []int{api.Exclusive, api.Owned, api.Modified} {
		l = made(t, state)
		l.Evict()
		refuses(t, l, with(down(api.Data), news()), down(api.Grant))
	}
}

func TestInv(t *testing.T) { // P19.2: Ack, and the state is Invalid; lost where it was not
	for state := api.Invalid; state <= api.Modified; state++ {
		l := made(t, state)
		takes(t, l, down(api.Inv), state != api.Invalid, up(api.Ack))
		has(t, l, api.Invalid, first(), 0)
		takes(t, l, down(api.Inv), false, up(api.Ack))
		// Nothing of it is left.
		takes(t, l, down(api.Take), false, up(api.Back))
		sent, is := l.Evict()
		none(t, sent, is)
	}
}

func TestInvWhileItWaits(t *testing.T) { // P19.2, P19.3: it waits on, and what is kept for Put stays kept
	for _, state := range []int{api.Shared, api.Owned} {
		l := made(t, state)
		l.Ask(true)
		takes(t, l, down(api.Inv), true, up(api.Ack))
		has(t, l, api.Invalid, first(), api.GetM)
		refuses(t, l, down(api.Grant))
		takes(t, l, with(down(api.Data), news()), false, up(api.Done))
		has(t, l, api.Exclusive, news(), 0)
	}
	for _, write := range []bool{false, true} {
		l := made(t, api.Invalid)
		l.Ask(write)
		waits := l.Waits()
		takes(t, l, down(api.Inv), false, up(api.Ack))
		has(t, l, api.Invalid, first(), waits)
	}
	for _, state := range []int{api.Exclusive, api.Owned, api.Modified} {
		for _, kind := range []int{api.Share, api.Take} {
			l := made(t, state)
			l.Evict()
			takes(t, l, down(api.Inv), false, up(api.Ack))
			takes(t, l, down(api.Inv), false, up(api.Ack))
			has(t, l, api.Invalid, first(), api.Put)
			back := with(up(api.Back), first())
			back.Dirty = state != api.Exclusive
			takes(t, l, down(kind), false, back)
		}
	}
}

func TestShare(t *testing.T) { // P19.2: Modified and Owned: Owned; Exclusive: Shared; the others tell no data
	for _, x := range []struct {
		state, then int
		back        api.Msg
	}{
		{api.Invalid, api.Invalid, up(api.Back)},
		{api.Shared, api.Shared, up(api.Back)},
		{api.Exclusive, api.Shared, with(up(api.Back), first())},
		{api.Owned, api.Owned, dirty(with(up(api.Back), first()))},
		{api.Modified, api.Owned, dirty(with(up(api.Back), first()))},
	} {
		l := made(t, x.state)
		takes(t, l, down(api.Share), false, x.back)
		has(t, l, x.then, first(), 0)
		second := x.back
		if x.then == api.Shared {
			second = up(api.Back)
		}
		takes(t, l, down(api.Share), false, second)
		has(t, l, x.then, first(), 0)
	}
}

func TestShareWhileItWaits(t *testing.T) { // P19.2, P19.3: by what it has; for Put, by what it was when it was evicted
	l := made(t, api.Shared)
	l.Ask(true)
	takes(t, l, down(api.Share), false, up(api.Back))
	has(t, l, api.Shared, first(), api.GetM)
	l = made(t, api.Owned)
	l.Ask(true)
	takes(t, l, down(api.Share), false, dirty(with(up(api.Back), first())))
	has(t, l, api.Owned, first(), api.GetM)
	takes(t, l, down(api.Grant), false, up(api.Done))
	has(t, l, api.Modified, first(), 0)
	for _, state := range []int{api.Owned, api.Modified} {
		l = made(t, state)
		l.Evict()
		for range 3 {
			takes(t, l, down(api.Share), false, dirty(with(up(api.Back), first())))
			has(t, l, api.Invalid, first(), api.Put)
		}
		takes(t, l, down(api.Take), false, dirty(with(up(api.Back), first())))
	}
}

func TestShareOfEvictedExclusive(t *testing.T) { // P19.2: it is as Shared then, so that it tells no data any more
	for _, kind := range []int{api.Share, api.Take} {
		l := made(t, api.Exclusive)
		l.Evict()
		takes(t, l, down(api.Share), false, with(up(api.Back), first()))
		has(t, l, api.Invalid, first(), api.Put)
		takes(t, l, down(kind), false, up(api.Back))
		takes(t, l, down(api.Inv), false, up(api.Ack))
		has(t, l, api.Invalid, first(), api.Put)
		takes(t, l, down(api.PutAck), false)
		has(t, l, api.Invalid, first(), 0)
	}
}

func TestTake(t *testing.T) { // P19.2: all but Shared tell the data that they have; Invalid
	for state := api.Invalid; state <= api.Modified; state++ {
		l := made(t, state)
		back := up(api.Back)
		if state > api.Shared {
			back = with(back, first())
			back.Dirty = state != api.Exclusive
		}
		takes(t, l, down(api.Take), state != api.Invalid, back)
		has(t, l, api.Invalid, first(), 0)
		takes(t, l, down(api.Take), false, up(api.Back))
		takes(t, l, down(api.Share), false, up(api.Back))
	}
}

func TestTakeWhileItWaits(t *testing.T) { // P19.2, P19.3: what it has, or keeps, is no more; it waits on
	l := made(t, api.Shared)
	l.Ask(true)
	takes(t, l, down(api.Take), true, up(api.Back))
	has(t, l, api.Invalid, first(), api.GetM)
	refuses(t, l, down(api.Grant))
	l = made(t, api.Owned)
	l.Ask(true)
	takes(t, l, down(api.Take), true, dirty(with(up(api.Back), first())))
	has(t, l, api.Invalid, first(), api.GetM)
	refuses(t, l, down(api.Grant))
	takes(t, l, dirty(with(down(api.Data), news())), false, up(api.Done))
	has(t, l, api.Modified, news(), 0)
	for _, state := range []int{api.Exclusive, api.Owned, api.Modified} {
		for _, kind := range []int{api.Share, api.Take} {
			l := made(t, state)
			l.Evict()
			back := with(up(api.Back), first())
			back.Dirty = state != api.Exclusive
			takes(t, l, down(api.Take), false, back)
			has(t, l, api.Invalid, first(), api.Put)
			takes(t, l, down(kind), false, up(api.Back))
			takes(t, l, down(api.PutAck), false)
			has(t, l, api.Invalid, first(), 0)
		}
	}
}

func TestData(t *testing.T) { // P19.2: for GetS by Alone, for GetM by Dirty; the data are those that come
	for _, x := range []struct {
		state               int
		write, alone, dirty bool
		then                int
	}{
		{api.Invalid, false, false, false, api.Shared},
		{api.Invalid, false, true, false, api.Exclusive},
		{api.Invalid, false, false, true, api.Shared},
		{api.Invalid, false, true, true, api.Exclusive},
		{api.Invalid, true, false, false, api.Exclusive},
		{api.Invalid, true, true, false, api.Exclusive},
		{api.Invalid, true, false, true, api.Modified},
		{api.Invalid, true, true, true, api.Modified},
		{api.Shared, true, true, false, api.Exclusive},
		{api.Shared, true, true, true, api.Modified},
		{api.Owned, true, true, false, api.Exclusive},
		{api.Owned, true, false, true, api.Modified},
	} {
		for _, told := range []bool{true, false} { // whether it is told to have data is not looked at
			l := made(t, x.state)
			l.Ask(x.write)
			m := down(api.Data)
			m.Data, m.Has, m.Alone, m.Dirty = news(), told, x.alone, x.dirty
			takes(t, l, m, false, up(api.Done))
			has(t, l, x.then, news(), 0)
			refuses(t, l, m) // it has come already
		}
	}
}

func TestGrant(t *testing.T) { // P19.2: Modified, with the data that it has
	for _, state := range []int{api.Shared, api.Owned} {
		l := made(t, state)
		l.Ask(true)
		takes(t, l, alone(dirty(with(down(api.Grant), news()))), false, up(api.Done)) // what else it has is nothing to the line
		has(t, l, api.Modified, first(), 0)
		refuses(t, l, down(api.Grant), with(down(api.Data), news()))
	}
}

func TestPutAck(t *testing.T) { // P19.2: it waits for nothing, and nothing is kept
	for _, state := range []int{api.Exclusive, api.Owned, api.Modified} {
		l := made(t, state)
		l.Evict()
		takes(t, l, alone(dirty(with(down(api.PutAck), news()))), false)
		has(t, l, api.Invalid, first(), 0)
		refuses(t, l, down(api.PutAck))
		takes(t, l, down(api.Share), false, up(api.Back))
		takes(t, l, down(api.Take), false, up(api.Back))
		sent, is := l.Evict()
		none(t, sent, is)
	}
}

func TestBareMessages(t *testing.T) { // P19.2: what else Inv, Share and Take have is nothing to the line
	for _, at := range situations() {
		for _, what := range []string{"Inv", "Share", "Take"} {
			l, m := brought(t, at)
			x, _ := doing{what: what}.message()
			next, want, _, lost := m.does(doing{what: what})
			takes(t, l, alone(dirty(with(x, news()))), lost, want...)
			check(t, l, next)
		}
	}
}

func TestWaitsStay(t *testing.T) { // P19.3: while it waits for GetM or GetS, state and data stay, but for Inv and Take, and what is waited for
	for _, at := range []string{"Ir", "Iw", "Sw", "Ow"} {
		l, m := brought(t, at)
		for _, what := range []string{"read", "write", "evict", "set", "PutAck", "Share"} {
			do(l, doing{what, news()})
			check(t, l, m)
		}
		for _, kind := range kinds() {
			refuses(t, l, up(kind), api.Msg{Kind: kind, Line: line + 1, From: -1, To: hart, Data: news(), Has: true})
		}
		check(t, l, m)
	}
}

func TestWrittenOverAndOver(t *testing.T) { // P19.1, P19.2: it is the last data that are told
	l := made(t, api.Exclusive)
	for i := range uint32(5) {
		l.Set(api.Line{0, i})
	}
	c := l.Clone()
	takes(t, c, down(api.Take), true, dirty(with(up(api.Back), api.Line{0, 4})))
	c = l.Clone()
	takes(t, c, down(api.Share), false, dirty(with(up(api.Back), api.Line{0, 4})))
	c.Ask(true)
	takes(t, c, down(api.Grant), false, up(api.Done))
	c.Set(api.Line{5})
	sent, is := c.Evict()
	sends(t, sent, is, dirty(with(up(api.Put), api.Line{5})))
	sent, is = l.Evict()
	sends(t, sent, is, dirty(with(up(api.Put), api.Line{0, 4})))
	if d, is := l.Data(); is || d != (api.Line{}) {
		t.Error(d, is)
	}
}

func TestCases(t *testing.T) { // P19.1, P19.2, P19.3: every doing in every situation
	if len(situations()) != 14 || slices.Contains(situations(), "") {
		t.Fatal(situations())
	}
	for _, at := range situations() {
		for _, what := range doings() {
			for _, d := range []api.Line{news(), first(), {}} {
				l, m := brought(t, at)
				did(t, l, m, doing{what, d})
			}
		}
	}
}
