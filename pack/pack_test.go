package pack

import (
	"bytes"
	"encoding/binary"
	"math"
	"math/rand"
	"strings"
	"testing"
)

// naturals has each number of bits, its neighbours and the edges.
func naturals() []uint64 {
	list := []uint64{0, 1, 2, 127, 128, 129, 255, 256, 300, 16383, 16384, math.MaxUint64}
	for i := range 64 {
		p := uint64(1) << i
		list = append(list, p-1, p, p+1)
	}
	return list
}

func numbers() []int {
	list := []int{0, -1, 1, -2, 2, -3, 63, 64, -64, -65, math.MinInt, math.MinInt + 1, math.MaxInt, math.MaxInt - 1}
	for i := range 63 {
		p := 1 << i
		list = append(list, p-1, p, p+1, -p-1, -p, -p+1)
	}
	return list
}

func texts() []string {
	return []string{"", "a", "ab", "\x00", "\x80\x00", "\xff\xfe", "ärger",
		strings.Repeat("x", 127), strings.Repeat("y", 128), strings.Repeat("z", 70000)}
}

// P1.1: the forms that the chapter writes out, and the edges of their lengths.
func TestFormOfNaturals(t *testing.T) {
	for _, c := range []struct {
		n    uint64
		want string
	}{
		{0, "\x00"},
		{1, "\x01"},
		{127, "\x7f"},
		{128, "\x80\x01"},
		{300, "\xac\x02"},
		{16383, "\xff\x7f"},
		{16384, "\x80\x80\x01"},
		{1<<63 - 1, "\xff\xff\xff\xff\xff\xff\xff\xff\x7f"},
		{1 << 63, "\x80\x80\x80\x80\x80\x80\x80\x80\x80\x01"},
		{math.MaxUint64, "\xff\xff\xff\xff\xff\xff\xff\xff\xff\x01"},
	} {
		if b := Natural(nil, c.n); string(b) != c.want {
			t.Errorf("Natural(nil, %d): %x, not %x", c.n, b, c.want)
		}
	}
	for _, n := range naturals() {
		if b := Natural(nil, n); !bytes.Equal(b, binary.AppendUvarint(nil, n)) {
			t.Errorf("Natural(nil, %d): %x", n, b)
		}
	}
}

func TestFormOfNumbers(t *testing.T) {
	for _, c := range []struct {
		n    int
		want string
	}{
		{0, "\x00"},
		{-1, "\x01"},
		{1, "\x02"},
		{-3, "\x05"},
		{63, "\x7e"},
		{-64, "\x7f"},
		{64, "\x80\x01"},
		{-65, "\x81\x01"},
		{math.MaxInt, "\xfe\xff\xff\xff\xff\xff\xff\xff\xff\x01"},
		{math.MinInt, "\xff\xff\xff\xff\xff\xff\xff\xff\xff\x01"},
	} {
		if b := Number(nil, c.n); string(b) != c.want {
			t.Errorf("Number(nil, %d): %x, not %x", c.n, b, c.want)
		}
	}
	for _, n := range numbers() {
		if b := Number(nil, n); !bytes.Equal(b, binary.AppendVarint(nil, int64(n))) {
			t.Errorf("Number(nil, %d): %x", n, b)
		}
	}
}

func TestFormOfTexts(t *testing.T) {
	if b := Text(nil, "ab"); string(b) != "\x02ab" {
		t.Errorf("Text(nil, ab): %x", b)
	}
	for _, s := range texts() {
		want := append(binary.AppendUvarint(nil, uint64(len(s))), s...)
		if b := Text(nil, s); !bytes.Equal(b, want) {
			t.Errorf("Text of %d bytes: %d bytes", len(s), len(b))
		}
	}
}

// writers are the three calls that answer bytes, each with something to write.
func writers() map[string]func([]byte) []byte {
	return map[string]func([]byte) []byte{
		"Natural 0":      func(b []byte) []byte { return Natural(b, 0) },
		"Natural most":   func(b []byte) []byte { return Natural(b, math.MaxUint64) },
		"Number 0":       func(b []byte) []byte { return Number(b, 0) },
		"Number least":   func(b []byte) []byte { return Number(b, math.MinInt) },
		"Text empty":     func(b []byte) []byte { return Text(b, "") },
		"Text of 3":      func(b []byte) []byte { return Text(b, "abc") },
		"Text of 130 as": func(b []byte) []byte { return Text(b, strings.Repeat("a", 130)) },
	}
}

// P1.1: b's bytes stand ahead, whether b is nil, empty or has bytes.
func TestWritesBehind(t *testing.T) {
	for name, write := range writers() {
		alone := write(nil)
		for _, b := range [][]byte{nil, {}, {7}, []byte("\x80\x80"), bytes.Repeat([]byte{9}, 1000)} {
			want := append(bytes.Clone(b), alone...)
			if got := write(b); !bytes.Equal(got, want) {
				t.Errorf("%s behind %d bytes: %x, not %x", name, len(b), got, want)
			}
		}
	}
}

// P1.1: what is handed in stays as it was, its spare room included.
func TestHandedInIsLeftAlone(t *testing.T) {
	for name, write := range writers() {
		for _, size := range []int{0, 1, 5} {
			whole := bytes.Repeat([]byte{0xee}, 300)
			write(whole[:size])
			if !bytes.Equal(whole, bytes.Repeat([]byte{0xee}, 300)) {
				t.Errorf("%s wrote into the %d bytes or behind them", name, size)
			}
		}
	}
}

// P1.1: an answer is new memory, its spare room too.
func TestAnswersAreNewMemory(t *testing.T) {
	for name, write := range writers() {
		for _, size := range []int{0, 1, 5} {
			whole := bytes.Repeat([]byte{0xee}, 300)
			one, two := write(whole[:size]), write(whole[:size])
			want := bytes.Clone(two)
			scribble(one)
			if !bytes.Equal(whole, bytes.Repeat([]byte{0xee}, 300)) || !bytes.Equal(two, want) {
				t.Errorf("%s behind %d bytes shares its answer", name, size)
			}
			scribble(whole)
			if !bytes.Equal(two, want) {
				t.Errorf("%s behind %d bytes shares what was handed in", name, size)
			}
		}
	}
}

// P1.1: an answer that is written on twice gives two answers that don't meet.
func TestWrittenOnTwice(t *testing.T) {
	b := Text(nil, "ab")
	one, two := Number(b, -3), Number(b, 4)
	if string(one) != "\x02ab\x05" || string(two) != "\x02ab\x08" || string(b) != "\x02ab" {
		t.Errorf("%x, %x behind %x", one, two, b)
	}
}

// scribble writes over all that b reaches.
func scribble(b []byte) {
	b = b[:cap(b)]
	for i := range b {
		b[i] = 0x11
	}
}

// P1.3: what is written is read again.
func TestReadsWhatIsWritten(t *testing.T) {
	for _, n := range naturals() {
		r := Open(Natural(nil, n))
		if got, ok := r.Natural(); got != n || !ok || !r.Done() {
			t.Errorf("natural %d: %d, %v", n, got, ok)
		}
	}
	for _, n := range numbers() {
		r := Open(Number(nil, n))
		if got, ok := r.Number(); got != n || !ok || !r.Done() {
			t.Errorf("number %d: %d, %v", n, got, ok)
		}
	}
	for _, s := range texts() {
		r := Open(Text(nil, s))
		if got, ok := r.Text(); got != s || !ok || !r.Done() {
			t.Errorf("text of %d bytes: %d bytes, %v", len(s), len(got), ok)
		}
	}
}

// P1.3: rows of many things, in any order.
func TestReadsRowsOfThings(t *testing.T) {
	random := rand.New(rand.NewSource(1))
	for range 200 {
		var b []byte
		var reads []func(*Reader) bool
		for range random.Intn(30) {
			n := random.Uint64() >> random.Intn(64)
			switch random.Intn(4) {
			case 0:
				b = Natural(b, n)
				reads = append(reads, func(r *Reader) bool { got, ok := r.Natural(); return ok && got == n })
			case 1:
				b = Number(b, int(n))
				reads = append(reads, func(r *Reader) bool { got, ok := r.Number(); return ok && got == int(n) })
			case 2:
				s := strings.Repeat(string([]byte{byte(n)}), int(n%200))
				b = Text(b, s)
				reads = append(reads, func(r *Reader) bool { got, ok := r.Text(); return ok && got == s })
			default:
				b = append(b, byte(n))
				reads = append(reads, func(r *Reader) bool { got, ok := r.Byte(); return ok && got == byte(n) })
			}
		}
		r := Open(b)
		for i, read := range reads {
			if r.Done() {
				t.Fatalf("done ahead of thing %d of %d", i, len(reads))
			}
			if !read(r) {
				t.Fatalf("thing %d of %d in %x", i, len(reads), b)
			}
		}
		if !r.Done() {
			t.Fatalf("not done behind %x", b)
		}
	}
}

// P1.3: of all rows of at most two bytes, and of three with telling ones, what
// is read is written in the same bytes.
func TestWritesWhatIsRead(t *testing.T) {
	sameBytes(t, nil)
	for i := range 256 {
		sameBytes(t, []byte{byte(i)})
		for j := range 256 {
			sameBytes(t, []byte{byte(i), byte(j)})
			for _, k := range []byte{0, 1, 2, 127, 128, 129, 255} {
				sameBytes(t, []byte{byte(i), byte(j), k})
			}
		}
	}
}

// sameBytes fails if something that is read of b is written in other bytes, or
// if its form is refused though it could have been written so.
func sameBytes(t *testing.T, b []byte) {
	t.Helper()
	n, size := binary.Uvarint(b)
	formed := size > 0 && (size == 1 || b[size-1] != 0)
	if got, ok := Open(b).Natural(); ok != formed || ok && (got != n || !bytes.HasPrefix(b, Natural(nil, got))) || !ok && got != 0 {
		t.Errorf("natural of %x: %d, %v", b, got, ok)
	}
	if got, ok := Open(b).Number(); ok != formed || ok && !bytes.HasPrefix(b, Number(nil, got)) || !ok && got != 0 {
		t.Errorf("number of %x: %d, %v", b, got, ok)
	}
	fits := formed && n <= uint64(len(b)-size)
	if got, ok := Open(b).Text(); ok != fits || ok && !bytes.HasPrefix(b, Text(nil, got)) || !ok && got != "" {
		t.Errorf("text of %x: %q, %v", b, got, ok)
	}
}

func FuzzSameBytes(f *testing.F) {
	for _, n := range naturals() {
		f.Add(Natural(nil, n))
	}
	for _, s := range texts() {
		f.Add(Text(nil, s))
	}
	for _, b := range unformed() {
		f.Add([]byte(b))
	}
	f.Fuzz(func(t *testing.T, b []byte) { sameBytes(t, b) })
}

// unformed are bytes that begin with no natural number in its form.
func unformed() []string {
	nines := strings.Repeat("\xff", 9)
	eighties := strings.Repeat("\x80", 9)
	return []string{
		"",                                      // nothing
		"\x80",                                  // ends too soon
		"\xff\xff",                              // ends too soon
		nines,                                   // ends too soon
		"\x80\x00",                              // a last byte of 0
		"\xff\x00",                              // a last byte of 0
		"\x80\x80\x00",                          // a last byte of 0
		eighties + "\x00",                       // a last byte of 0
		eighties + "\x02",                       // 2^64
		nines + "\x02",                          // 2^64 + 2^63 - 1
		nines + "\x03",                          // above 2^64
		nines + "\x7f",                          // above 2^64
		eighties + "\x80",                       // ends too soon
		eighties + "\x81",                       // ends too soon
		eighties + "\x80\x01",                   // 2^70
		eighties + "\x81\x01",                   // above 2^70
		eighties + "\x80\x00",                   // a last byte of 0
		eighties + "\x81\x00",                   // a last byte of 0
		strings.Repeat("\x80", 100) + "\x01",    // far above
		strings.Repeat("\x80", 100) + "\x00",    // far above, and a last byte of 0
		strings.Repeat("\xff", 100) + "\x00abc", // the same, and more
	}
}

// P1.2: what isn't a natural number in its form is none, nor a number or a
// text's length.
func TestUnformed(t *testing.T) {
	for _, s := range unformed() {
		for _, behind := range []string{"", "\x01", "\x00\x00\x00"} {
			if len(s) == 0 || s[len(s)-1] >= 0x80 {
				behind = ""
			}
			b := []byte(s + behind)
			r := Open(b)
			if n, ok := r.Natural(); n != 0 || ok {
				t.Errorf("natural of %x: %d, %v", b, n, ok)
			}
			wantBad(t, r)
			r = Open(b)
			if n, ok := r.Number(); n != 0 || ok {
				t.Errorf("number of %x: %d, %v", b, n, ok)
			}
			wantBad(t, r)
			r = Open(b)
			if text, ok := r.Text(); text != "" || ok {
				t.Errorf("text of %x: %q, %v", b, text, ok)
			}
			wantBad(t, r)
		}
	}
}

// P1.2: a length above what is left, up to the greatest one.
func TestTextThatEndsTooSoon(t *testing.T) {
	for _, n := range []uint64{1, 2, 3, 4, 127, 128, 1 << 31, 1 << 32, 1<<32 + 3, 1<<63 - 1, 1 << 63, 1<<63 + 1, math.MaxUint64 - 1, math.MaxUint64} {
		for left := range min(n, 4) {
			b := append(Natural(nil, n), "\x00\x00\x00\x00"[:left]...)
			r := Open(b)
			if s, ok := r.Text(); s != "" || ok {
				t.Errorf("text of %x: %q, %v", b, s, ok)
			}
			wantBad(t, r)
		}
	}
}

// P1.2: a byte is there as long as there is one.
func TestBytesOneByOne(t *testing.T) {
	r := Open([]byte("\x00\x80\xff"))
	for _, want := range []byte{0, 0x80, 0xff} {
		if r.Done() {
			t.Errorf("done ahead of %x", want)
		}
		if c, ok := r.Byte(); c != want || !ok {
			t.Errorf("%x, %v, not %x", c, ok, want)
		}
	}
	if !r.Done() {
		t.Errorf("not done")
	}
	if c, ok := r.Byte(); c != 0 || ok {
		t.Errorf("behind the end: %x, %v", c, ok)
	}
	wantBad(t, r)
}

// P1.2: a reader that is done is bad once more is asked of it.
func TestAskedBehindTheEnd(t *testing.T) {
	for _, b := range [][]byte{nil, {}} {
		for _, ask := range []func(*Reader) bool{
			func(r *Reader) bool { n, ok := r.Natural(); return n == 0 && !ok },
			func(r *Reader) bool { n, ok := r.Number(); return n == 0 && !ok },
			func(r *Reader) bool { s, ok := r.Text(); return s == "" && !ok },
			func(r *Reader) bool { c, ok := r.Byte(); return c == 0 && !ok },
		} {
			r := Open(b)
			if !r.Done() || !r.Done() {
				t.Errorf("not done, though there is nothing")
			}
			if !ask(r) {
				t.Errorf("something of nothing")
			}
			wantBad(t, r)
		}
	}
}

// P1.2: a bad reader stays bad, though what is left could be read.
func TestBadThoughSomethingIsLeft(t *testing.T) {
	r := Open([]byte("\x80\x00\x01a\x02"))
	r.Natural()
	wantBad(t, r)
	r = Open([]byte("\x05\x09ab\x01a"))
	if n, ok := r.Number(); n != -3 || !ok {
		t.Errorf("ahead of the fault: %d, %v", n, ok)
	}
	r.Text()
	wantBad(t, r)
}

// wantBad asks all that there is of r, twice.
func wantBad(t *testing.T, r *Reader) {
	t.Helper()
	for range 2 {
		if r.Done() {
			t.Errorf("bad, but done")
		}
		if n, ok := r.Natural(); n != 0 || ok {
			t.Errorf("bad, but natural %d, %v", n, ok)
		}
		if n, ok := r.Number(); n != 0 || ok {
			t.Errorf("bad, but number %d, %v", n, ok)
		}
		if s, ok := r.Text(); s != "" || ok {
			t.Errorf("bad, but text %q, %v", s, ok)
		}
		if c, ok := r.Byte(); c != 0 || ok {
			t.Errorf("bad, but byte %d, %v", c, ok)
		}
	}
}

// P1.2: a nil reader isn't done, and none of its calls panics.
func TestNilReader(t *testing.T) {
	var r *Reader
	if r.Done() {
		t.Errorf("nil, but done")
	}
	wantBad(t, r)
}

// P1.2: an empty text is there, and is not the end.
func TestEmptyTexts(t *testing.T) {
	r := Open([]byte("\x00\x00"))
	for range 2 {
		if r.Done() {
			t.Errorf("done too soon")
		}
		if s, ok := r.Text(); s != "" || !ok {
			t.Errorf("%q, %v", s, ok)
		}
	}
	if !r.Done() {
		t.Errorf("not done")
	}
}

// P1.2: Open keeps nothing of b, and reading changes nothing of it.
func TestOpenKeepsNothing(t *testing.T) {
	whole := []byte("\x02ab\x05zzzz")
	kept := bytes.Clone(whole)
	r := Open(whole[:4])
	scribble(whole)
	s, ok := r.Text()
	if s != "ab" || !ok {
		t.Errorf("%q, %v", s, ok)
	}
	if n, ok := r.Number(); n != -3 || !ok || !r.Done() {
		t.Errorf("%d, %v", n, ok)
	}
	copy(whole, kept)
	r = Open(whole[:4])
	r.Text()
	r.Number()
	r.Byte()
	if !bytes.Equal(whole, kept) {
		t.Errorf("%x was changed", whole)
	}
}

// P1.2: two readers of one row of bytes don't meet.
func TestTwoReaders(t *testing.T) {
	b := []byte("\xac\x02\x07")
	one, two := Open(b), Open(b)
	one.Natural()
	one.Text()
	wantBad(t, one)
	if n, ok := two.Natural(); n != 300 || !ok {
		t.Errorf("%d, %v", n, ok)
	}
	if c, ok := two.Byte(); c != 7 || !ok || !two.Done() {
		t.Errorf("%d, %v", c, ok)
	}
}
