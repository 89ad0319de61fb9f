package lone_test

import (
	"fmt"
	"math"
	"slices"
	"strings"
	"testing"

	"corral/api"
	"corral/lone"
)

// line and hart are those of the lines here, where a test names no other ones.
const (
	line = 7
	hart = 2
)

// first is what a line has where a test names nothing else, news is what comes then.
func first() api.Line { return api.Line{1, 2, 3, 0xFFFFFFFF} }

func news() api.Line { return api.Line{9, 8, 7, 0x80000000} }

// up is a message to the home, down is one from it.
func up(kind int) api.Msg { return api.Msg{Kind: kind, Line: line, From: hart, To: -1} }

func down(kind int) api.Msg { return api.Msg{Kind: kind, Line: line, From: -1, To: hart} }

// with is m with data, that are told to be there.
func with(m api.Msg, d api.Line) api.Msg {
	m.Data, m.Has = d, true
	return m
}

func dirty(m api.Msg) api.Msg {
	m.Dirty = true
	return m
}

func alone(m api.Msg) api.Msg {
	m.Alone = true
	return m
}

// kinds is all kinds of messages.
func kinds() []int {
	return []int{api.GetS, api.GetM, api.Put, api.Inv, api.Share, api.Take, api.Data, api.Grant, api.PutAck, api.Ack, api.Back, api.Done}
}

// far is numbers below 0 and far up, small ones but for bits far up among them.
func far() []int {
	return []int{-2, -3, -8, -256, -1 << 32, -1<<32 + 1, math.MinInt32, math.MinInt + 1, math.MinInt,
		1 << 8, 1<<8 + 1, 1 << 16, 1 << 31, 1<<31 + 1, 1 << 32, 1<<32 + 1, 1 << 62, math.MaxInt - 1, math.MaxInt}
}

// The chapter, case by case. A row is a situation: its state, as S, with r, w or p behind it where it waits for GetS, GetM or Put (for Put the state is that of what is kept; I is nothing). A column is what is done; a case tells the situation behind it, and what is sent (+ with data, * with Dirty ones; ! where the copy is lost). A dot: false, and nothing.
const cases = `
    read   write  evict  set  Inv      Share     Take       Data    Alone   Dirty   Both    Grant   PutAck
I   Ir/GetS Iw/GetM .    .    I/Ack    I/Back    I/Back     .       .       .       .       .       .
S   .      Sw/GetM I/    .    I/Ack!   S/Back    I/Back!    .       .       .       .       .       .
E   .      .      Ep/Put+ M/  I/Ack!   S/Back+   I/Back+!   .       .       .       .       .       .
O   .      Ow/GetM Op/Put* .  I/Ack!   O/Back*   I/Back*!   .       .       .       .       .       .
M   .      .      Mp/Put* M/  I/Ack!   O/Back*   I/Back*!   .       .       .       .       .       .
Ir  .      .      .      .    Ir/Ack   Ir/Back   Ir/Back    S/Done  E/Done  S/Done  E/Done  .       .
Iw  .      .      .      .    Iw/Ack   Iw/Back   Iw/Back    E/Done  E/Done  M/Done  M/Done  .       .
Sw  .      .      .      .    Iw/Ack!  Sw/Back   Iw/Back!   E/Done  E/Done  M/Done  M/Done  M/Done  .
Ow  .      .      .      .    Iw/Ack!  Ow/Back*  Iw/Back*!  E/Done  E/Done  M/Done  M/Done  M/Done  .
Ep  .      .      .      .    Ep/Ack   Sp/Back+  Ip/Back+   .       .       .       .       .       I/
Op  .      .      .      .    Op/Ack   Op/Back*  Ip/Back*   .       .       .       .       .       I/
Mp  .      .      .      .    Mp/Ack   Op/Back*  Ip/Back*   .       .       .       .       .       I/
Sp  .      .      .      .    Sp/Ack   Sp/Back   Ip/Back    .       .       .       .       .       I/
Ip  .      .      .      .    Ip/Ack   Ip/Back   Ip/Back    .       .       .       .       .       I/
`

// doing is a column of the cases, with the data that it brings.
type doing struct {
	what string
	data api.Line
}

// doings is the columns.
func doings() []string {
	return strings.Fields(strings.Split(cases, "\n")[1])
}

// table is the cases by situation and column.
func table() map[[2]string]string {
	t := map[[2]string]string{}
	for _, row := range strings.Split(strings.TrimSpace(cases), "\n")[1:] {
		l := strings.Fields(row)
		for i, what := range doings() {
			t[[2]string{l[0], what}] = l[1+i]
		}
	}
	return t
}

// known is the table, read once.
var known = table()

// model is a line as the cases tell it.
type model struct {
	at   string
	data api.Line
}

func fresh() model { return model{at: "I"} }

func (m model) waits() int {
	switch m.at[1:] {
	case "r":
		return api.GetS
	case "w":
		return api.GetM
	case "p":
		return api.Put
	}
	return 0
}

func (m model) state() int {
	if m.waits() == api.Put {
		return api.Invalid
	}
	return strings.Index("ISEOM", m.at[:1])
}

// does is the model behind a doing, what is sent, whether it is done at all, and whether the copy is lost.
func (m model) does(d doing) (next model, sent []api.Msg, is, lost bool) {
	c := known[[2]string{m.at, d.what}]
	if c == "." {
		return m, nil, false, false
	}
	c, lost = strings.CutSuffix(c, "!")
	at, out, _ := strings.Cut(c, "/")
	name := strings.TrimRight(out, "+*")
	if name != "" {
		x := up(map[string]int{"GetS": api.GetS, "GetM": api.GetM, "Put": api.Put, "Ack": api.Ack, "Back": api.Back, "Done": api.Done}[name])
		if out != name {
			x = with(x, m.data)
			x.Dirty = strings.HasSuffix(out, "*")
		}
		sent = []api.Msg{x}
	}
	next = model{at, m.data}
	if d.what == "set" || name == "Done" && d.what != "Grant" {
		next.data = d.data
	}
	if at[0] == 'I' {
		next.data = api.Line{}
	}
	return next, sent, true, lost
}

// message is the one of a column that is a message; false where it is a call.
func (d doing) message() (api.Msg, bool) {
	data := with(down(api.Data), d.data)
	switch d.what {
	case "Inv":
		return down(api.Inv), true
	case "Share":
		return down(api.Share), true
	case "Take":
		return down(api.Take), true
	case "Data":
		return data, true
	case "Alone":
		return alone(data), true
	case "Dirty":
		return dirty(data), true
	case "Both":
		return alone(dirty(data)), true
	case "Grant":
		return down(api.Grant), true
	case "PutAck":
		return down(api.PutAck), true
	}
	return api.Msg{}, false
}

// do does it to a line: what is sent, whether it was done, whether the copy is lost.
func do(l *lone.Line, d doing) (sent []api.Msg, is, lost bool) {
	if m, of := d.message(); of {
		is = l.Takes(m)
		sent, lost = l.Take(m)
		return sent, is, lost
	}
	switch d.what {
	case "read", "write":
		sent, is = l.Ask(d.what == "write")
	case "evict":
		sent, is = l.Evict()
	case "set":
		is = l.Set(d.data)
	}
	return sent, is, false
}

// did does it to both, and holds the line against the model.
func did(t *testing.T, l *lone.Line, m model, d doing) model {
	t.Helper()
	next, want, is, lost := m.does(d)
	got, was, gone := do(l, d)
	if !slices.Equal(got, want) || was != is || gone != lost {
		t.Fatalf("%v at %v: %v %v %v, not %v %v %v", d, m, got, was, gone, want, is, lost)
	}
	check(t, l, next)
	return next
}

// check holds all that a line tells against the model.
func check(t *testing.T, l *lone.Line, m model) {
	t.Helper()
	has(t, l, m.state(), m.data, m.waits())
	for _, kind := range kinds() {
		if got, want := l.Takes(down(kind)), m.takes(kind); got != want {
			t.Fatalf("Takes(%v) is %v, at %v", down(kind), got, m)
		}
	}
}

// takes tells whether it takes that kind of message from the home.
func (m model) takes(kind int) bool {
	for _, what := range doings() {
		if x, of := (doing{what: what}).message(); of && x.Kind == kind {
			return known[[2]string{m.at, what}] != "."
		}
	}
	return false
}

// has holds a line against what it has to tell.
func has(t *testing.T, l *lone.Line, state int, d api.Line, waits int) {
	t.Helper()
	is := state != api.Invalid
	if !is {
		d = api.Line{}
	}
	got, there := l.Data()
	if l.State() != state || got != d || there != is || l.Waits() != waits {
		t.Errorf("it tells %d %v %v, waits for %d; not %d %v %v, %d", l.State(), got, there, l.Waits(), state, d, is, waits)
	}
	if got, want := l.Can(false), waits == 0 && is; got != want {
		t.Errorf("Can(false) is %v, at %d, waiting for %d", got, state, waits)
	}
	if got, want := l.Can(true), waits == 0 && (state == api.Exclusive || state == api.Modified); got != want {
		t.Errorf("Can(true) is %v, at %d, waiting for %d", got, state, waits)
	}
}

// takes hands a line a message and holds it against what is to be sent for it, and whether its copy is to be lost.
func takes(t *testing.T, l *lone.Line, x api.Msg, lost bool, want ...api.Msg) {
	t.Helper()
	if !l.Takes(x) {
		t.Errorf("Takes(%v) is false", x)
	}
	if got, gone := l.Take(x); !slices.Equal(got, want) || gone != lost {
		t.Errorf("Take(%v) is %v %v, not %v %v", x, got, gone, want, lost)
	}
}

// refuses hands a line messages that it does not take, and holds that nothing comes of them.
func refuses(t *testing.T, l *lone.Line, messages ...api.Msg) {
	t.Helper()
	state, waits := l.State(), l.Waits()
	d, _ := l.Data()
	for _, x := range messages {
		if l.Takes(x) {
			t.Errorf("Takes(%v) is true", x)
		}
		if got, lost := l.Take(x); len(got) > 0 || lost {
			t.Errorf("Take(%v) is %v %v", x, got, lost)
		}
		has(t, l, state, d, waits)
	}
}

// none holds that a call answered nothing, and false.
func none(t *testing.T, sent []api.Msg, is bool) {
	t.Helper()
	if len(sent) > 0 || is {
		t.Errorf("%v %v, not none, false", sent, is)
	}
}

// sends holds that a call answered that, and true.
func sends(t *testing.T, sent []api.Msg, is bool, want ...api.Msg) {
	t.Helper()
	if !slices.Equal(sent, want) || !is {
		t.Errorf("%v %v, not %v, true", sent, is, want)
	}
}

// made is a line in a state, that waits for nothing and has first().
func made(t *testing.T, state int) *lone.Line {
	t.Helper()
	l := lone.New(line, hart)
	switch state {
	case api.Shared, api.Exclusive:
		l.Ask(false)
		m := with(down(api.Data), first())
		m.Alone = state == api.Exclusive
		l.Take(m)
	case api.Owned, api.Modified:
		l.Ask(true)
		l.Take(dirty(with(down(api.Data), first())))
	}
	if state == api.Owned {
		l.Take(down(api.Share))
	}
	has(t, l, state, first(), 0)
	return l
}

// situations is all rows of the cases.
func situations() []string {
	var l []string
	for _, row := range strings.Split(strings.TrimSpace(cases), "\n")[1:] {
		l = append(l, strings.Fields(row)[0])
	}
	return l
}

// brought is a line in a situation, with first() in it where there is any, and its model.
func brought(t *testing.T, at string) (*lone.Line, model) {
	t.Helper()
	l := made(t, strings.Index("ISEOM", at[:1]))
	m := model{at[:1], first()}
	switch at {
	case "Ip", "Sp":
		l = made(t, api.Exclusive)
		l.Evict()
		l.Take(down(map[string]int{"Ip": api.Take, "Sp": api.Share}[at]))
	case "Ir":
		l.Ask(false)
	case "Iw", "Sw", "Ow":
		l.Ask(true)
	case "Ep", "Op", "Mp":
		l.Evict()
	}
	m.at = at
	if at[0] == 'I' {
		m.data = api.Line{}
	}
	check(t, l, m)
	return l, m
}

// String is for what a failing test says.
func (m model) String() string { return fmt.Sprint(m.at, m.data) }
