package lone_test

import (
	"slices"
	"testing"

	"corral/api"
	"corral/lone"
)

// told is all that a line tells, and sends for each doing: of a clone of it.
type told struct {
	state, waits int
	data         api.Line
	sent         [][]api.Msg
	is, lost     []bool
}

func tell(l *lone.Line) told {
	x := told{state: l.State(), waits: l.Waits()}
	x.data, _ = l.Data()
	for _, what := range doings() {
		sent, is, lost := do(l.Clone(), doing{what, news()})
		x.sent, x.is, x.lost = append(x.sent, sent), append(x.is, is), append(x.lost, lost)
	}
	return x
}

func same(a, b told) bool {
	return a.state == b.state && a.waits == b.waits && a.data == b.data &&
		slices.EqualFunc(a.sent, b.sent, slices.Equal) && slices.Equal(a.is, b.is) && slices.Equal(a.lost, b.lost)
}

func TestClone(t *testing.T) { // P19.1: a clone does what the line would, and neither shows what becomes of the other
	for _, at := range situations() {
		for _, what := range doings() {
			l, m := brought(t, at)
			before := tell(l)
			c := l.Clone()
			if got := tell(c); !same(got, before) {
				t.Fatalf("a clone tells %v, not %v", got, before)
			}
			next := did(t, c, m, doing{what, news()}) // the one goes on
			if got := tell(l); !same(got, before) {
				t.Fatalf("behind %s of its clone it tells %v, not %v", what, got, before)
			}
			after := tell(c)
			did(t, l, m, doing{what, news()}) // then the other one
			if got := tell(l); !same(got, after) {
				t.Fatalf("it tells %v, its clone %v", got, after)
			}
			did(t, l, next, doing{"Take", news()})
			check(t, c, next)
		}
	}
}

func TestAnew(t *testing.T) { // P0.4: whatever is written into a list, or appended to it, no other one shows it, nor the line
	for _, at := range situations() {
		for _, what := range doings() {
			l, _ := brought(t, at)
			c := l.Clone()
			a, _, _ := do(l, doing{what, news()})
			b, _, _ := do(c, doing{what, news()})
			want := slices.Clone(b)
			whole := a[:cap(a)]
			for i := range whole {
				whole[i] = up(api.Put)
			}
			_ = append(a, up(api.Ack), up(api.Done))
			if !slices.Equal(b, want) {
				t.Error("another list shows it")
			}
			if !same(tell(l), tell(c)) {
				t.Error("the line shows it")
			}
		}
	}
}

func TestToldStays(t *testing.T) { // P0.4: what was told stays, whatever becomes of the line
	l := made(t, api.Exclusive)
	l.Set(news())
	back, _ := l.Take(down(api.Share))
	ask, _ := l.Ask(true)
	done, _ := l.Take(down(api.Grant))
	l.Set(first())
	put, _ := l.Evict()
	l.Take(down(api.PutAck))
	for _, x := range []struct{ got, want []api.Msg }{
		{back, []api.Msg{dirty(with(up(api.Back), news()))}},
		{ask, []api.Msg{up(api.GetM)}},
		{done, []api.Msg{up(api.Done)}},
		{put, []api.Msg{dirty(with(up(api.Put), first()))}},
	} {
		if !slices.Equal(x.got, x.want) {
			t.Error(x.got, x.want)
		}
	}
}

func TestApart(t *testing.T) { // P0.5: lines that stand side by side have nothing to do with each other
	a, x := brought(t, "I")
	b, y := brought(t, "I")
	x = did(t, a, x, doing{what: "write"})
	check(t, b, y)
	y = did(t, b, y, doing{what: "read"})
	check(t, a, x)
	x = did(t, a, x, doing{"Dirty", news()})
	check(t, b, y)
	y = did(t, b, y, doing{"Alone", first()})
	y = did(t, b, y, doing{what: "evict"})
	check(t, a, x)
	did(t, a, x, doing{what: "Share"})
	check(t, b, y)
}
