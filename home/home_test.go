package home_test

import (
	"math"
	"slices"
	"testing"

	"corral/api"
	"corral/home"
)

func TestExample(t *testing.T) { // P18.1: the chapter's example
	h := home.New(line, 2, first())
	takes(t, h, up(api.GetS, 0), alone(with(down(api.Data, 0), first())))
	has(t, h, 0, nil, first(), true)
	takes(t, h, up(api.Done, 0))
	takes(t, h, up(api.GetS, 1), down(api.Share, 0))
}

func TestNew(t *testing.T) { // P18.1, P18.2: no owner, no sharers, not busy; memory's data are those that it was given
	for _, harts := range []int{1, 2, 4, 5, 1000, math.MaxInt} {
		for _, l := range []int{0, 1, 7, 4095, math.MaxInt} {
			for _, d := range []api.Line{{}, {0, 0, 0, 1}, first()} {
				has(t, home.New(l, harts, d), -1, nil, d, false)
			}
		}
	}
}

func TestFree(t *testing.T) { // P18.1: what one that is not busy takes of a hart: GetS, GetM and Put, and nothing else
	h := home.New(line, 3, first())
	for hart := range 3 {
		for kind := -3; kind < 20; kind++ {
			if got, want := h.Takes(up(kind, hart)), kind == api.GetS || kind == api.GetM || kind == api.Put; got != want {
				t.Errorf("Takes(%v) is %v", up(kind, hart), got)
			}
		}
		for _, kind := range append(below(), far()...) {
			refuses(t, h, up(kind, hart), up(kind+api.GetS, hart))
		}
		refuses(t, h, up(api.Ack, hart), up(api.Back, hart), up(api.Done, hart), with(up(api.Data, hart), first()))
	}
}

func TestNoHart(t *testing.T) { // P18.1: From is 0 to harts - 1
	for _, harts := range []int{-3, 0, 1, 2, 4, 9} {
		h := home.New(line, harts, first())
		for _, kind := range kinds() {
			for _, x := range []int{harts, harts + 1, max(harts, 0) + 255} {
				refuses(t, h, up(kind, x))
			}
			for _, x := range append(below(), far()...) {
				refuses(t, h, up(kind, x))
			}
			if got := h.Takes(up(kind, harts-1)); got != (harts > 0 && kind <= api.Put) {
				t.Errorf("%d harts: Takes(%v) is %v", harts, up(kind, harts-1), got)
			}
		}
		has(t, h, -1, nil, first(), false)
	}
	for _, harts := range below() { // there is no hart, so that no message comes of any
		h := home.New(line, harts, first())
		for _, x := range append(below(), 0, 1, math.MaxInt) {
			refuses(t, h, up(api.GetS, x), up(api.GetM, x), up(api.Put, x))
		}
	}
}

func TestNoHartWhileBusy(t *testing.T) { // P18.1: nor does a busy one take an answer of what is no hart: nobody is waited for there
	for _, h := range []*home.Home{owned(t, 2, 0), owned(t, 2, 1, 0), shared(t, 2, 0, 1)} {
		for _, kind := range []int{api.GetS, api.GetM} {
			c := h.Clone()
			c.Take(up(kind, 0))
			for _, x := range append(below(), far()...) {
				refuses(t, c, up(api.Ack, x), up(api.Back, x), up(api.Done, x))
			}
		}
	}
}

func TestLine(t *testing.T) { // P18.1: m is for its line, and to the home
	for _, l := range []int{0, 1, 7, 4095, 1 << 32, math.MaxInt} {
		h := home.New(l, 2, first())
		for _, other := range []int{l - 1, l ^ 1<<8, l ^ 1<<32, l ^ 1<<62, ^l, -l - 8, math.MinInt} {
			for _, kind := range kinds() {
				refuses(t, h, api.Msg{Kind: kind, Line: other, To: -1})
			}
		}
		for _, to := range append(far(), 0, 1, 2, -2, math.MinInt, math.MaxInt32) {
			for _, kind := range kinds() {
				refuses(t, h, api.Msg{Kind: kind, Line: l, To: to})
			}
		}
		takes(t, h, api.Msg{Kind: api.GetM, Line: l, From: 1, To: -1}, api.Msg{Kind: api.Data, Line: l, From: -1, To: 1, Data: first(), Has: true, Alone: true})
		refuses(t, h, api.Msg{Kind: api.Done, Line: l ^ 1, From: 1, To: -1}, api.Msg{Kind: api.Done, Line: l, From: 1, To: 1})
		takes(t, h, api.Msg{Kind: api.Done, Line: l, From: 1, To: -1})
		takes(t, h, api.Msg{Kind: api.GetS, Line: l, From: 0, To: -1}, api.Msg{Kind: api.Share, Line: l, From: -1, To: 1})
		refuses(t, h, api.Msg{Kind: api.Back, Line: l ^ 1, From: 1, To: -1}, api.Msg{Kind: api.Back, Line: l, From: 1})
	}
}

func TestGetSAlone(t *testing.T) { // P18.1: Alone, and the owner, where there is neither owner nor sharer but the one that asks
	want := alone(with(down(api.Data, 1), first()))
	for name, h := range map[string]*home.Home{"nobody": home.New(line, 3, first()), "its sharer": shared(t, 3, 1), "its owner": owned(t, 3, 1)} {
		t.Run(name, func(t *testing.T) {
			takes(t, h, up(api.GetS, 1), want)
			has(t, h, 1, nil, first(), true)
			refuses(t, h, up(api.GetS, 1), up(api.GetS, 0), up(api.GetM, 0), up(api.Put, 1), up(api.Put, 2), up(api.Done, 0), up(api.Ack, 1), up(api.Back, 1))
			takes(t, h, up(api.Done, 1))
			has(t, h, 1, nil, first(), false)
			refuses(t, h, up(api.Done, 1))
		})
	}
}

func TestGetSShared(t *testing.T) { // P18.1: memory's data at once where nobody else owns it; a sharer, not Alone
	for _, x := range []struct {
		name string
		h    *home.Home
		want []int
	}{
		{"one sharer", shared(t, 4, 2), []int{0, 2}},
		{"sharers", shared(t, 4, 3, 1), []int{0, 1, 3}},
		{"it is one of the sharers", shared(t, 4, 0, 1), []int{0, 1}},
		{"it owns, and another one shares", owned(t, 4, 0, 3), []int{0, 3}},
		{"it owns, and others share", owned(t, 4, 0, 3, 1), []int{0, 1, 3}},
	} {
		t.Run(x.name, func(t *testing.T) {
			takes(t, x.h, up(api.GetS, 0), with(down(api.Data, 0), first()))
			has(t, x.h, -1, x.want, first(), true)
			refuses(t, x.h, up(api.Ack, 1), up(api.Back, 0), up(api.Back, 3), up(api.Done, 3), up(api.GetS, 2))
			takes(t, x.h, up(api.Done, 0))
			has(t, x.h, -1, x.want, first(), false)
		})
	}
}

func TestGetSOwned(t *testing.T) { // P18.1: Share to the owner, which tells what becomes of it
	news := api.Line{9, 8, 7, 6}
	for _, x := range []struct {
		name    string
		back    api.Msg
		owner   int
		sharers []int
		data    api.Line
	}{
		{"Dirty", dirty(with(up(api.Back, 2), news)), 2, []int{0, 3}, news},
		{"not Dirty", with(up(api.Back, 2), news), -1, []int{0, 2, 3}, news},
		{"none any more", up(api.Back, 2), -1, []int{0, 3}, first()},
		{"Alone is not looked at", alone(with(up(api.Back, 2), news)), -1, []int{0, 2, 3}, news},
		{"what is not had is not looked at", api.Msg{Kind: api.Back, Line: line, From: 2, To: -1, Data: news, Alone: true}, -1, []int{0, 3}, first()},
		{"Dirty comes first", api.Msg{Kind: api.Back, Line: line, From: 2, To: -1, Data: news, Dirty: true}, 2, []int{0, 3}, news},
	} {
		for _, sharers := range [][]int{{3}, {0, 3}} { // the one that asks may have been a sharer
			t.Run(x.name, func(t *testing.T) {
				h := owned(t, 4, 2, sharers...)
				takes(t, h, up(api.GetS, 0), down(api.Share, 2))
				has(t, h, 2, sharers, first(), true)
				refuses(t, h, up(api.Done, 0), up(api.Done, 2), up(api.Ack, 2), up(api.Ack, 3), up(api.Back, 0), up(api.Back, 3), up(api.Put, 2), up(api.GetS, 1), up(api.GetM, 0))
				takes(t, h, x.back, with(down(api.Data, 0), x.data))
				has(t, h, x.owner, x.sharers, first(), true)
				refuses(t, h, x.back, up(api.Back, 2), up(api.Ack, 2), up(api.Done, 2), up(api.GetM, 1))
				takes(t, h, up(api.Done, 0))
				has(t, h, x.owner, x.sharers, first(), false)
			})
		}
	}
}

func TestGetMAtOnce(t *testing.T) { // P18.1: where there is nobody to be waited for
	data := alone(with(down(api.Data, 1), first()))
	for _, x := range []struct {
		name string
		h    *home.Home
		want api.Msg
	}{
		{"nobody", home.New(line, 3, first()), data},
		{"its sharer", shared(t, 3, 1), data},
		{"its owner", owned(t, 3, 1), down(api.Grant, 1)},
	} {
		t.Run(x.name, func(t *testing.T) {
			takes(t, x.h, up(api.GetM, 1), x.want)
			has(t, x.h, 1, nil, first(), true)
			refuses(t, x.h, up(api.GetM, 1), up(api.GetS, 0), up(api.Put, 1), up(api.Done, 0), up(api.Done, 2), up(api.Ack, 1), up(api.Back, 1))
			takes(t, x.h, up(api.Done, 1))
			has(t, x.h, 1, nil, first(), false)
			refuses(t, x.h, up(api.Done, 1))
		})
	}
}

func TestGetMOfSharers(t *testing.T) { // P18.1: Inv to each sharer but the one that asks; all of them are waited for, in whatever order
	for _, order := range [][]int{{0, 2, 3}, {3, 2, 0}, {2, 0, 3}} {
		for _, sharers := range [][]int{{3, 0, 2}, {1, 0, 2, 3}} {
			h := shared(t, 4, sharers...)
			before := h.Sharers()
			takes(t, h, up(api.GetM, 1), down(api.Inv, 0), down(api.Inv, 2), down(api.Inv, 3))
			for i, s := range order {
				has(t, h, -1, before, first(), true)
				refuses(t, h, up(api.Done, 1), up(api.Ack, 1), up(api.Back, s), up(api.Put, s), up(api.GetS, 1))
				if i < 2 {
					takes(t, h, up(api.Ack, s))
				} else {
					takes(t, h, up(api.Ack, s), alone(with(down(api.Data, 1), first())))
				}
				refuses(t, h, up(api.Ack, s)) // it came already
			}
			has(t, h, 1, nil, first(), true)
			takes(t, h, up(api.Done, 1))
			has(t, h, 1, nil, first(), false)
		}
	}
}

func TestGetMOfTheOwner(t *testing.T) { // P18.1: the owner that asks keeps what it has, when the sharers have dropped theirs
	for owner := range 3 {
		h := owned(t, 3, owner, (owner+2)%3, (owner+1)%3)
		l := h.Sharers()
		takes(t, h, up(api.GetM, owner), down(api.Inv, l[0]), down(api.Inv, l[1]))
		has(t, h, owner, l, first(), true)
		refuses(t, h, up(api.Back, owner), up(api.Ack, owner), up(api.Done, owner), up(api.Back, l[0]))
		takes(t, h, up(api.Ack, l[1]))
		takes(t, h, up(api.Ack, l[0]), down(api.Grant, owner))
		has(t, h, owner, nil, first(), true)
		takes(t, h, up(api.Done, owner))
		has(t, h, owner, nil, first(), false)
	}
}

func TestGetMOwned(t *testing.T) { // P18.1: Take to the owner; what Back had, if it has data, else memory's
	news := api.Line{9, 8, 7, 6}
	data := alone(down(api.Data, 0))
	for _, x := range []struct {
		name       string
		back, want api.Msg
	}{
		{"Dirty", dirty(with(up(api.Back, 2), news)), dirty(with(data, news))},
		{"not Dirty", with(up(api.Back, 2), news), with(data, news)},
		{"none any more", up(api.Back, 2), with(data, first())},
		{"Alone is not looked at", alone(with(up(api.Back, 2), news)), with(data, news)},
		{"what is not had is not looked at", api.Msg{Kind: api.Back, Line: line, From: 2, To: -1, Data: news, Dirty: true}, with(data, first())},
	} {
		t.Run(x.name, func(t *testing.T) {
			h := owned(t, 4, 2)
			takes(t, h, up(api.GetM, 0), down(api.Take, 2))
			has(t, h, 2, nil, first(), true)
			refuses(t, h, up(api.Ack, 2), up(api.Back, 0), up(api.Back, 1), up(api.Done, 0), up(api.Put, 2))
			takes(t, h, x.back, x.want)
			has(t, h, 0, nil, first(), true)
			refuses(t, h, x.back, up(api.Done, 2))
			takes(t, h, up(api.Done, 0))
			has(t, h, 0, nil, first(), false)
			// What this one told is not told again.
			takes(t, h, up(api.GetM, 1), down(api.Take, 0))
			takes(t, h, up(api.Back, 0), alone(with(down(api.Data, 1), first())))
		})
	}
}

func TestGetMOfAll(t *testing.T) { // P18.1: harts rising, the owner at its place among the sharers; what Back had waits for the last Ack
	news := api.Line{0, 0, 0, 5}
	for owner := range 4 {
		for r := range 4 {
			if r == owner {
				continue
			}
			for last := range 4 {
				if last == r {
					continue
				}
				h := owned(t, 4, owner, slices.DeleteFunc([]int{3, 1, 0, 2}, func(s int) bool { return s == owner })...)
				before := h.Sharers()
				answer := map[int]api.Msg{}
				var sent, order []api.Msg
				for s := range 4 {
					if s == owner {
						sent, answer[s] = append(sent, down(api.Take, s)), dirty(with(up(api.Back, s), news))
					} else if s != r {
						sent, answer[s] = append(sent, down(api.Inv, s)), up(api.Ack, s)
					}
					if s != r && s != last {
						order = append(order, answer[s])
					}
				}
				takes(t, h, up(api.GetM, r), sent...)
				for _, x := range order {
					takes(t, h, x)
					has(t, h, owner, before, first(), true)
					refuses(t, h, x, up(api.Done, r))
				}
				refuses(t, h, up(api.Ack+api.Back-answer[last].Kind, last)) // an answer to what it was not sent
				takes(t, h, answer[last], dirty(alone(with(down(api.Data, r), news))))
				has(t, h, r, nil, first(), true)
				takes(t, h, up(api.Done, r))
			}
		}
	}
}

func TestPut(t *testing.T) { // P18.1: of the owner, of a sharer, of another one; Dirty or not
	news := api.Line{4, 0, 0, 0}
	for _, x := range []struct {
		name    string
		h       *home.Home
		m       api.Msg
		owner   int
		sharers []int
		data    api.Line
	}{
		{"the owner's, Dirty", owned(t, 4, 1), dirty(with(up(api.Put, 1), news)), -1, nil, news},
		{"the owner's, Dirty, others share", owned(t, 4, 1, 3, 0), dirty(with(up(api.Put, 1), news)), -1, []int{0, 3}, news},
		{"the owner's, not Dirty", owned(t, 4, 1), with(up(api.Put, 1), news), -1, nil, first()},
		{"the owner's, not Dirty, others share", owned(t, 4, 1, 2), with(up(api.Put, 1), news), -1, []int{2}, first()},
		{"the owner's, without data", owned(t, 4, 1), up(api.Put, 1), -1, nil, first()},
		{"the owner's, Dirty, and not told to have any", owned(t, 4, 1), dirty(up(api.Put, 1)), -1, nil, api.Line{}},
		{"a sharer's", shared(t, 4, 0, 1, 2), with(up(api.Put, 1), news), -1, []int{0, 2}, first()},
		{"a sharer's, Dirty", shared(t, 4, 0, 1, 2), dirty(with(up(api.Put, 1), news)), -1, []int{0, 2}, first()},
		{"a sharer's, Dirty, where another one owns", owned(t, 4, 2, 1, 0), dirty(with(up(api.Put, 1), news)), 2, []int{0}, first()},
		{"the last sharer's", shared(t, 4, 1), up(api.Put, 1), -1, nil, first()},
		{"one that has none", owned(t, 4, 2, 0), dirty(with(up(api.Put, 1), news)), 2, []int{0}, first()},
		{"one that has none, nobody has", home.New(line, 4, first()), dirty(with(up(api.Put, 1), news)), -1, nil, first()},
	} {
		t.Run(x.name, func(t *testing.T) {
			takes(t, x.h, x.m, down(api.PutAck, 1))
			has(t, x.h, x.owner, x.sharers, x.data, false)
			refuses(t, x.h, up(api.Done, 1), up(api.Ack, 1), up(api.Back, 1))
			// Another one of the same hart finds it without any.
			takes(t, x.h, dirty(with(up(api.Put, 1), api.Line{77})), down(api.PutAck, 1))
			has(t, x.h, x.owner, x.sharers, x.data, false)
		})
	}
}

func TestMemoryIsToldWhenItIsNew(t *testing.T) { // P18.1, P18.2: what was put is what memory has from then on, and what is sent
	h := owned(t, 3, 0)
	news := api.Line{5, 5, 5, 5}
	takes(t, h, dirty(with(up(api.Put, 0), news)), down(api.PutAck, 0))
	takes(t, h, up(api.GetS, 2), alone(with(down(api.Data, 2), news)))
	takes(t, h, up(api.Done, 2))
	takes(t, h, up(api.GetM, 1), down(api.Take, 2))
	takes(t, h, up(api.Back, 2), alone(with(down(api.Data, 1), news)))
	has(t, h, 1, nil, news, true)
}

func TestAsksAreBare(t *testing.T) { // P18.1: what else an asking message, an Ack or a Done has is nothing to the home
	more := func(m api.Msg) api.Msg {
		m.Data, m.Has, m.Dirty, m.Alone = api.Line{6, 6, 6, 6}, true, true, true
		return m
	}
	h := shared(t, 3, 0, 2)
	takes(t, h, more(up(api.GetS, 1)), with(down(api.Data, 1), first()))
	takes(t, h, more(up(api.Done, 1)))
	takes(t, h, more(up(api.GetM, 2)), down(api.Inv, 0), down(api.Inv, 1))
	takes(t, h, more(up(api.Ack, 0)))
	takes(t, h, more(up(api.Ack, 1)), alone(with(down(api.Data, 2), first())))
	takes(t, h, more(up(api.Done, 2)))
	takes(t, h, more(up(api.GetM, 2)), down(api.Grant, 2))
	takes(t, h, more(up(api.Done, 2)))
	takes(t, h, more(up(api.GetM, 1)), down(api.Take, 2))
	has(t, h, 2, nil, first(), true)
}

func TestManyHarts(t *testing.T) { // P18.1, P18.2: as many harts as it was made for
	const harts = 150
	h, m := made(t, harts)
	took(t, h, m, up(api.GetM, 70), up(api.Done, 70))
	for i := range harts {
		if s := i * 37 % harts; s != 70 {
			took(t, h, m, up(api.GetS, s), dirty(with(up(api.Back, 70), first())), up(api.Done, s))
		}
	}
	if l := h.Sharers(); len(l) != harts-1 || !slices.IsSorted(l) {
		t.Error(l)
	}
	took(t, h, m, up(api.GetM, 149))
	for i := range harts {
		if s := i * 41 % harts; s != 70 {
			took(t, h, m, up(api.Ack, s))
		}
	}
	took(t, h, m, up(api.Done, 149), dirty(with(up(api.Back, 70), api.Line{3})), up(api.Done, 149))
	has(t, h, 149, nil, first(), false)
}

func TestFarHarts(t *testing.T) { // P18.1, P0.1: harts far up, told apart though they differ in bits far up alone
	l := []int{0, 1, 1 << 8, 1 << 32, 1<<32 + 1, 1 << 62, math.MaxInt - 1}
	for _, owner := range l {
		h, m := made(t, math.MaxInt)
		took(t, h, m, up(api.GetM, owner), up(api.Done, owner))
		for _, s := range l {
			took(t, h, m, up(api.GetS, s), dirty(with(up(api.Back, owner), first())), up(api.Done, s), up(api.GetM, math.MaxInt))
		}
		took(t, h, m, up(api.GetM, 5), dirty(with(up(api.Back, owner), api.Line{3})))
		for _, s := range l {
			took(t, h, m, up(api.Ack, s), up(api.Ack, s^1<<61))
		}
		took(t, h, m, up(api.Done, 5))
	}
}
