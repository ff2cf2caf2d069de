// Package cksum is layer 1: the sum of packets. See shared/doc/01-cksum.md.
package cksum

// Sum is the sum of all bytes of the parts, taken two by two as if they stood in one piece.
func Sum(parts ...[]byte) uint16 {
	// 64 bits hold the numbers of any input there can be, so one fold at the end is enough.
	var total uint64
	half := false // a number's higher byte is in total, and its lower one is yet to come
each:
	for _, part := range parts {
		if half && len(part) > 0 {
			total += uint64(part[0])
			part = part[1:]
			half = false
		}
		for {
			switch len(part) {
			case 0:
				continue each
			case 1:
				// Its other byte is the next part's first, or the 0 that is behind the last one.
				total += uint64(part[0]) << 8
				half = true
				continue each
			}
			total += uint64(pair(part))
			part = part[2:]
		}
	}
	return fold(total)
}

// Put is what is put into a packet, so that the packet with it is Good.
func Put(parts ...[]byte) uint16 {
	return ^Sum(parts...)
}

// Good tells whether the sum of a packet, with its Put in it, is right.
func Good(parts ...[]byte) bool {
	return Sum(parts...) == 0xffff
}

// Update is what a Put becomes when one number of what it was made of changes.
func Update(sum, from, to uint16) uint16 {
	return ^fold(uint64(^sum) + uint64(^from) + uint64(to))
}

// Change is what a Put becomes when bytes of what it was made of change. They are whole numbers of
// it, as many as before: where they can't be, the sum stays as it is.
func Change(sum uint16, from, to []byte) (uint16, bool) {
	if len(from) != len(to) || len(from)%2 != 0 {
		return sum, false
	}
	for at := 0; at < len(from); at += 2 {
		sum = Update(sum, pair(from[at:]), pair(to[at:]))
	}
	return sum, true
}

// Same tells whether two sums count alike: 0 and ffff are two ways to write one number.
func Same(a, b uint16) bool {
	return a == b || a == 0 && b == 0xffff || a == 0xffff && b == 0
}

// pair is the number that the first two bytes of b are; b has them.
func pair(b []byte) uint16 {
	return uint16(b[0])<<8 | uint16(b[1])
}

// fold repeats, as what carries out of 16 bits may carry again.
func fold(total uint64) uint16 {
	for total > 0xffff {
		total = total>>16 + total&0xffff
	}
	return uint16(total)
}
