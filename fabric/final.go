package fabric

import (
	"corral/api"
	"corral/mem"
)

// Final is memory as it would be, if all that harts have were put.
func (f *Fabric) Final() *mem.Memory {
	flying := f.flying()
	m := f.memory.Clone()
	for line, h := range f.homes {
		data, is := f.changed(line)
		if !is {
			data, is = flying[line]
		}
		if !is {
			data, is = f.held(line)
		}
		if !is {
			data, is = f.kept(line)
		}
		if !is {
			data = h.Data()
		}
		m.SetLine(line, data)
	}
	return m
}

// changed is the line as a cache has it, where it is not as memory has it.
func (f *Fabric) changed(line int) (api.Line, bool) {
	for _, s := range f.sides {
		l := s.lines[line]
		if l.State() == api.Owned || l.State() == api.Modified {
			return l.Data()
		}
	}
	return api.Line{}, false
}

// flying is, of each line, the data that are on their way and that memory does not have.
func (f *Fabric) flying() map[int]api.Line {
	l := map[int]api.Line{}
	for _, x := range f.way.All() {
		m := x.Msg
		if m.Dirty && (m.Kind == api.Data || m.Kind == api.Back) {
			l[m.Line] = m.Data
		}
	}
	return l
}

// held is what the home holds of a Dirty Back while Acks are still to come: what it would send, if they came.
func (f *Fabric) held(line int) (api.Line, bool) {
	h := f.homes[line].Clone()
	for hart := range f.sides {
		for _, m := range h.Take(api.Msg{Kind: api.Ack, Line: line, From: hart, To: homeEnd}) {
			if m.Dirty {
				return m.Data, true
			}
		}
	}
	return api.Line{}, false
}

// kept is what a hart keeps that waits for Put, where memory does not have it: what it would tell, if it were asked. It has to be the home's owner: once its Put has come there, memory had what it keeps, and may have newer data since.
func (f *Fabric) kept(line int) (api.Line, bool) {
	owner := f.homes[line].Owner()
	if !f.hasHart(owner) {
		return api.Line{}, false
	}
	l := f.sides[owner].lines[line].Clone()
	sent, _ := l.Take(api.Msg{Kind: api.Share, Line: line, From: homeEnd, To: owner})
	for _, m := range sent {
		if m.Dirty {
			return m.Data, true
		}
	}
	return api.Line{}, false
}
