package pack

// Reader reads what Natural, Number and Text wrote, one after the other.
type Reader struct {
	left []byte // what isn't read yet: the reader's own memory
	bad  bool   // something was asked for that didn't stand next
}

// Open answers a reader at the beginning of b. It reads a copy, so that what
// becomes of b later on doesn't change what is read.
func Open(b []byte) *Reader {
	return &Reader{left: copyOf(b, 0)}
}

// Natural reads the natural number that stands next.
func (r *Reader) Natural() (uint64, bool) {
	if r.spoilt() {
		return 0, false
	}
	n, size := firstNatural(r.left)
	if size == 0 {
		r.spoil()
		return 0, false
	}
	r.left = r.left[size:]
	return n, true
}

// Number reads the number that stands next.
func (r *Reader) Number() (int, bool) {
	u, ok := r.Natural()
	if !ok {
		return 0, false
	}
	return unfolded(u), true
}

// Text reads the text that stands next.
func (r *Reader) Text() (string, bool) {
	size, ok := r.Natural()
	if !ok {
		return "", false
	}
	if size > uint64(len(r.left)) {
		r.spoil()
		return "", false
	}
	s := string(r.left[:size])
	r.left = r.left[size:]
	return s, true
}

// Byte reads the byte that stands next.
func (r *Reader) Byte() (byte, bool) {
	if r.spoilt() {
		return 0, false
	}
	if len(r.left) == 0 {
		r.spoil()
		return 0, false
	}
	c := r.left[0]
	r.left = r.left[1:]
	return c, true
}

// Done says whether all was read, and nothing was asked for that wasn't there.
func (r *Reader) Done() bool {
	return !r.spoilt() && len(r.left) == 0
}

// spoilt says whether nothing can be read of r any more. A nil reader is as a
// bad one: it has nothing to read.
func (r *Reader) spoilt() bool {
	return r == nil || r.bad
}

// spoil makes r bad. Its bytes are never read again, so it lets go of them.
func (r *Reader) spoil() {
	r.bad = true
	r.left = nil
}

// firstNatural answers the natural number at the beginning of b and how many
// bytes it takes: 0, if there is none in its form.
func firstNatural(b []byte) (uint64, int) {
	var n uint64
	for i, c := range b {
		if i == longest-1 && c > lastMost {
			return 0, 0
		}
		n |= uint64(c&lowBits) << (digitBits * i)
		if c >= more {
			continue
		}
		if c == 0 && i > 0 {
			return 0, 0
		}
		return n, i + 1
	}
	return 0, 0
}
