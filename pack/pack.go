// Package pack is layer 1: numbers and texts as bytes, each in one form.
package pack

// The bytes of a natural number carry seven bits each; the eighth says that
// another byte follows.
const (
	digitBits = 7
	more      = 1 << digitBits
	lowBits   = more - 1
	longest   = 10 // bytes of a natural number below 2^64
	lastMost  = 1  // what the longest one's last byte may be: 64 - 9*7 bits are left for it
)

// Natural answers b's bytes and behind them those of the natural number n.
func Natural(b []byte, n uint64) []byte {
	return addNatural(copyOf(b, longest), n)
}

// Number answers b's bytes and behind them those of the number n.
func Number(b []byte, n int) []byte {
	return Natural(b, folded(n))
}

// Text answers b's bytes and behind them those of the text s.
func Text(b []byte, s string) []byte {
	out := addNatural(copyOf(b, longest+len(s)), uint64(len(s)))
	return append(out, s...)
}

// copyOf answers b's bytes with room behind them. The room is new memory too:
// an append to b itself could write into what the caller has behind b.
func copyOf(b []byte, room int) []byte {
	out := make([]byte, len(b), len(b)+room)
	copy(out, b)
	return out
}

// addNatural appends to out, which must be the caller's own memory.
func addNatural(out []byte, n uint64) []byte {
	for n >= more {
		out = append(out, byte(n&lowBits)|more)
		n >>= digitBits
	}
	return append(out, byte(n))
}

// folded is 2n, or -2n-1 of a number below 0. There ^n stands for -n-1, since
// -n is no number at the least one.
func folded(n int) uint64 {
	if n < 0 {
		return uint64(^n)<<1 | 1
	}
	return uint64(n) << 1
}

// unfolded is the number whose folded form is u.
func unfolded(u uint64) int {
	n := int(u >> 1)
	if u&1 == 1 {
		return ^n
	}
	return n
}
