package wmo

import (
	"corral/api"
	"corral/ppo"
)

// step is an operation where it lies in order. It is a copy, since first is the caller's, and may do what it likes to what was handed in.
type step struct {
	api.Op
	hart int
	lr   int    // the place in order of the Lr that it is paired with; start: none
	from [4]int // of each byte that it reads: the place in order of the write that it has to read
}

// stepsOf is the operations by their places in order. The one at start has no bytes; Barriers are taken for it.
func stepsOf(harts [][]api.Op, places [][]int, n int) []step {
	steps, line := make([]step, n+1), make([]int, n+1)
	for h, l := range harts {
		pairs := ppo.Pairs(l)
		for i, p := range places[h] {
			if p == start {
				continue
			}
			steps[p] = step{Op: l[i], hart: h}
			if pairs[i] >= 0 {
				steps[p].lr = places[h][pairs[i]]
			}
		}
		follow(steps, places[h])
	}
	for p := range line {
		line[p] = p
	}
	follow(steps, line)
	return steps
}

// follow goes along a line of steps: each one may read what those that were passed wrote, of each byte from the one that lies last in order. Along its hart's list a step meets what the hart wrote and others don't see yet, along the order what all see.
func follow(steps []step, line []int) {
	last := map[uint32]int{}
	for _, p := range line {
		s := &steps[p]
		for i := range s.Size {
			addr := s.Addr + uint32(i)
			if reads(&s.Op) {
				s.from[i] = max(s.from[i], last[addr])
			}
			if writes(&s.Op) {
				last[addr] = max(last[addr], p)
			}
		}
	}
}

// misread is the first place in order of one whose Got is not what it has to read; start: none.
func misread(steps []step, first func(addr uint32) byte) int {
	for p := range steps {
		if s := &steps[p]; reads(&s.Op) && s.Got != toRead(steps, s, first) {
			return p
		}
	}
	return start
}

// toRead is what s has to read, and 0 beyond its bytes.
func toRead(steps []step, s *step, first func(addr uint32) byte) uint32 {
	var v uint32
	for i := range s.Size {
		v |= uint32(byteToRead(steps, s.from[i], s.Addr+uint32(i), first)) << (8 * i)
	}
	return v
}

// byteToRead is the byte at addr as the write at from left it.
func byteToRead(steps []step, from int, addr uint32, first func(addr uint32) byte) byte {
	if from == start {
		return firstAt(first, addr)
	}
	return byteAt(&steps[from].Op, addr)
}

// firstAt is what first says of a byte; 0, if it is nil or panics, since Check does not panic, whatever it is given.
func firstAt(first func(addr uint32) byte, addr uint32) (b byte) {
	defer func() {
		if recover() != nil {
			b = 0
		}
	}()
	return first(addr)
}

// recent is the last writes of a byte, by their places in order.
type recent struct {
	hart        int // of whom the last one is
	last, other int // the last one, and the last one of any other hart
}

// with is what it is behind one more write.
func (r recent) with(hart, p int) recent {
	if hart != r.hart {
		r.other = r.last
	}
	r.hart, r.last = hart, p
	return r
}

// notOf is the last write of any other hart than this one.
func (r recent) notOf(hart int) int {
	if hart != r.hart {
		return r.last
	}
	return r.other
}

// parted is the first place in order of an Sc ahead of which another hart wrote over what its Lr read; start: none.
func parted(steps []step) int {
	writers := map[uint32]recent{}
	for p := range steps {
		s := &steps[p]
		if s.lr > start && overwritten(&steps[s.lr], writers) {
			return p
		}
		if !writes(&s.Op) {
			continue
		}
		for i := range s.Size {
			addr := s.Addr + uint32(i)
			writers[addr] = writers[addr].with(s.hart, p)
		}
	}
	return start
}

// overwritten tells whether a byte that lr read was then written by another hart.
func overwritten(lr *step, writers map[uint32]recent) bool {
	for i, from := range lr.from {
		if writers[lr.Addr+uint32(i)].notOf(lr.hart) > from {
			return true
		}
	}
	return false
}
