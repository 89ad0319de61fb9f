package fabric

import (
	"maps"
	"slices"

	"corral/api"
	"corral/cache"
	"corral/lone"
)

// maxWaiting is how many lines of a hart may wait while it asks for one more.
const maxWaiting = 4

// side is one hart's side of the fabric: its lines, and which of them have a place in its cache.
type side struct {
	lines   []*lone.Line
	places  *cache.Cache
	waiting []int            // the lines that wait for anything
	lost    map[int]struct{} // the lines of which the hart lost its copy, and was not told yet
}

// newSide is the side of a hart that has none of so many lines, where c is Valid.
func newSide(hart, lines int, c Config) *side {
	places, _ := cache.New(c.Sets, c.Ways)
	s := &side{places: places, lost: map[int]struct{}{}}
	for line := range lines {
		s.lines = append(s.lines, lone.New(line, hart))
	}
	return s
}

// read is the line's data, where they can be read.
func (s *side) read(line int) (api.Line, bool) {
	l := s.lines[line]
	if !l.Can(false) {
		return api.Line{}, false
	}
	s.places.Use(line)
	return l.Data()
}

// write changes the line's data, where they can be written.
func (s *side) write(line int, change func(old api.Line) api.Line) bool {
	l := s.lines[line]
	old, _ := l.Data()
	if !l.Set(change(old)) {
		return false
	}
	s.places.Use(line)
	return true
}

// ask is what the hart sends to have the line, behind what it sends to have a place for it; false where it doesn't ask.
func (s *side) ask(line int, write bool) ([]api.Msg, bool) {
	l := s.lines[line]
	if l.Waits() != 0 || l.Can(write) || len(s.waiting) >= maxWaiting {
		return nil, false
	}
	sent, is := s.makeRoom(line)
	if !is {
		return nil, false
	}
	asked, _ := l.Ask(write)
	s.follow(line, false)
	// A cache takes no Invalid line: that it is put as Shared tells no more than that it has a place.
	s.places.Put(cache.Entry{Line: line, State: api.Shared})
	return append(sent, asked...), true
}

// makeRoom sees to it that there is a place for the line, and answers what is sent where another one is evicted; false where none can be.
func (s *side) makeRoom(line int) ([]api.Msg, bool) {
	if s.places.Room(line) {
		return nil, true
	}
	victim, is := s.places.Victim(line, s.waiting...)
	if !is {
		return nil, false
	}
	sent, _ := s.lines[victim.Line].Evict()
	s.follow(victim.Line, true)
	return sent, true
}

// follow brings what is kept beside a line up to what became of it.
func (s *side) follow(line int, lost bool) {
	l := s.lines[line]
	s.waiting = slices.DeleteFunc(s.waiting, func(x int) bool { return x == line })
	if l.Waits() != 0 {
		s.waiting = append(s.waiting, line)
	}
	if lost {
		s.lost[line] = struct{}{}
	}
	comes := l.Waits() == api.GetS || l.Waits() == api.GetM
	if l.State() == api.Invalid && !comes {
		s.places.Drop(line)
	}
}

// tellLost is the lines that were lost, rising, which are told by that.
func (s *side) tellLost() []int {
	l := slices.Sorted(maps.Keys(s.lost))
	clear(s.lost)
	return l
}
