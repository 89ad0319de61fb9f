package ppo

import "corral/api"

// span is bytes that lie one behind the other. Addresses wrap: behind the last one comes the first.
type span struct {
	from uint32
	size uint64 // no more than all
}

const all = 1 << 32 // how many bytes have an address

func spanOf(o *api.Op) span {
	return span{o.Addr, min(uint64(max(o.Size, 0)), all)}
}

func (s span) has(addr uint32) bool { return uint64(addr-s.from) < s.size }

// meets tells whether s and o have a byte in common. Going down from it one comes to where one of them begins, and is still in the other.
func (s span) meets(o span) bool {
	return s.has(o.from) && o.size > 0 || o.has(s.from) && s.size > 0
}

// share tells whether there is a byte that all three have: one of them begins with such a one, as where two meet.
func share(a, b, c span) bool {
	in := func(addr uint32) bool { return a.has(addr) && b.has(addr) && c.has(addr) }
	return in(a.from) || in(b.from) || in(c.from)
}

// within tells whether all bytes of s are o's.
func (s span) within(o span) bool {
	return o.size == all || uint64(s.from-o.from)+s.size <= o.size
}
