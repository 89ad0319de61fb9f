// Package word: words of 32 bits: see ../shared/doc/01-word.md.
package word

// Field is a part of a word for Pack: the lowest N bits of V, from bit Low on.
type Field struct {
	Low, N int
	V      uint32
}

// Sign is the lowest n bits of x, the bits above them like the highest of them.
func Sign(x uint32, n int) uint32 {
	if n < 1 {
		return 0
	}
	if n > 31 {
		return x
	}
	above := 32 - n
	return uint32(int32(x<<above) >> above)
}

// Bits is n bits of x from bit low on, as a number; 0 where there are none.
func Bits(x uint32, low, n int) uint32 {
	if !within(low, n) {
		return 0
	}
	return (x >> low) & lowest(n)
}

// Pack is the fields or'ed together; a field that lies nowhere gives nothing.
func Pack(l ...Field) uint32 {
	var w uint32
	for _, f := range l {
		if within(f.Low, f.N) {
			w |= (f.V & lowest(f.N)) << f.Low
		}
	}
	return w
}

// High is the upper half of the product of a and b, each taken with its sign or without.
func High(a, b uint32, signA, signB bool) uint32 {
	// Without signs the product may pass what an int64 holds, but its 64 bits are the same.
	return uint32(uint64(wide(a, signA)*wide(b, signB)) >> 32)
}

// Div is a by b, cut towards 0; by 0 all bits are set.
func Div(a, b uint32, signed bool) uint32 {
	if b == 0 {
		return 0xFFFFFFFF
	}
	return uint32(wide(a, signed) / wide(b, signed))
}

// Rem is what Div leaves of a, with a's sign; by 0 it leaves all of it.
func Rem(a, b uint32, signed bool) uint32 {
	if b == 0 {
		return a
	}
	return uint32(wide(a, signed) % wide(b, signed))
}

// Less tells whether a is below b.
func Less(a, b uint32, signed bool) bool {
	return wide(a, signed) < wide(b, signed)
}

// Right is a moved down by the lowest five bits of n; signed keeps the sign.
func Right(a uint32, n int, signed bool) uint32 {
	return uint32(wide(a, signed) >> (n & 31))
}

// Left is a moved up by the lowest five bits of n.
func Left(a uint32, n int) uint32 {
	return a << (n & 31)
}

// within tells whether n bits from bit low on have at least one bit in a word.
func within(low, n int) bool {
	return low >= 0 && low <= 31 && n >= 1
}

// lowest is a word whose lowest n bits are set, n at least 1.
func lowest(n int) uint32 {
	if n > 31 {
		return 0xFFFFFFFF
	}
	return uint32(1)<<n - 1
}

// wide is the number that a stands for: in 64 bits the least by -1 has room, so that no case of the reckoning needs a way of its own.
func wide(a uint32, signed bool) int64 {
	if signed {
		return int64(int32(a))
	}
	return int64(a)
}
