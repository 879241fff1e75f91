package bitmap

import (
	"bytes"
	"math"
	"math/big"
	"math/rand"
	"slices"
	"strconv"
	"testing"
)

// lengths has the edges of bytes, and some thousand truths.
func lengths() []int {
	list := []int{63, 64, 65, 127, 128, 129, 255, 256, 257, 4095, 4096, 4097, 5000}
	for n := range 34 {
		list = append(list, n)
	}
	return list
}

// all answers n truths, all of them yes.
func all(n int, yes bool) []bool {
	return slices.Repeat([]bool{yes}, n)
}

// one answers n truths, all of them but that at place i the other than yes.
func one(n, i int, yes bool) []bool {
	l := all(n, !yes)
	l[i] = yes
	return l
}

func randomTruths(r *rand.Rand, n int) []bool {
	l := make([]bool, n)
	for i := range l {
		l[i] = r.Intn(2) == 1
	}
	return l
}

// number is the plain model: truths are the digits of a number in base two,
// the first of them the lowest, and bytes are its digits in base 256.
func number(l []bool) *big.Int {
	x := new(big.Int)
	for i, yes := range l {
		if yes {
			x.SetBit(x, i, 1)
		}
	}
	return x
}

func modelPut(l []bool) []byte {
	n := 0
	for 8*n < len(l) {
		n++
	}
	b := number(l).FillBytes(make([]byte, n))
	slices.Reverse(b)
	return b
}

func modelGet(b []byte, n int) ([]bool, bool) {
	if n < 0 || n > 8*len(b) || 8*len(b)-n > 7 {
		return nil, false
	}
	turned := slices.Clone(b)
	slices.Reverse(turned)
	x := new(big.Int).SetBytes(turned)
	if x.BitLen() > n {
		return nil, false
	}
	l := []bool{}
	for i := range n {
		l = append(l, x.Bit(i) == 1)
	}
	return l, true
}

func modelCount(b []byte) int {
	n := 0
	for _, x := range b {
		for _, digit := range strconv.FormatUint(uint64(x), 2) {
			if digit == '1' {
				n++
			}
		}
	}
	return n
}

// holds puts l and gets it again, and holds all that is answered against the
// model.
func holds(t *testing.T, l []bool) {
	t.Helper()
	before := slices.Clone(l)
	b := Put(l)
	if want := modelPut(l); !bytes.Equal(b, want) {
		t.Fatalf("Put of %v: %x, not %x", l, b, want)
	}
	got, ok := Get(b, len(l))
	if !ok || !slices.Equal(got, l) {
		t.Fatalf("Get(%x, %d): %v, %v, not %v", b, len(l), got, ok, l)
	}
	trues := 0
	for _, yes := range l {
		if yes {
			trues++
		}
	}
	if n := Count(b); n != trues {
		t.Fatalf("Count(%x): %d, not %d", b, n, trues)
	}
	if !slices.Equal(l, before) {
		t.Fatalf("Put changed its argument: %v, not %v", l, before)
	}
}

// refused asks for n truths that b hasn't in that form.
func refused(t *testing.T, b []byte, n int) {
	t.Helper()
	before := slices.Clone(b)
	if l, ok := Get(b, n); ok || len(l) != 0 {
		t.Fatalf("Get(%x, %d): %v, %v, not false", b, n, l, ok)
	}
	if !bytes.Equal(b, before) {
		t.Fatalf("Get changed its argument: %x, not %x", b, before)
	}
}

// P10.1: the document's examples, and forms written out.
func TestForm(t *testing.T) {
	for _, c := range []struct {
		l    []bool
		want string
	}{
		{nil, ""},
		{[]bool{}, ""},
		{[]bool{false}, "\x00"},
		{[]bool{true}, "\x01"},
		{[]bool{true, false, true}, "\x05"},
		{[]bool{false, true, true, false, false, false, false, false, true}, "\x06\x01"},
		{all(7, true), "\x7f"},
		{all(8, true), "\xff"},
		{all(9, true), "\xff\x01"},
		{all(15, true), "\xff\x7f"},
		{all(16, true), "\xff\xff"},
		{all(17, true), "\xff\xff\x01"},
		{all(7, false), "\x00"},
		{all(8, false), "\x00"},
		{all(9, false), "\x00\x00"},
		{all(17, false), "\x00\x00\x00"},
		{one(8, 7, true), "\x80"},
		{one(9, 8, true), "\x00\x01"},
		{one(16, 15, true), "\x00\x80"},
		{one(17, 16, true), "\x00\x00\x01"},
	} {
		if b := Put(c.l); string(b) != c.want {
			t.Errorf("Put of %v: %x, not %x", c.l, b, c.want)
		}
		if l, ok := Get([]byte(c.want), len(c.l)); !ok || !slices.Equal(l, c.l) {
			t.Errorf("Get(%x, %d): %v, %v, not %v", c.want, len(c.l), l, ok, c.l)
		}
	}
	refused(t, []byte{5}, 2)
}

// P10.1: truths of each length around the edges of bytes, put and got again.
func TestTruthsPutAndGot(t *testing.T) {
	r := rand.New(rand.NewSource(10))
	for _, n := range lengths() {
		holds(t, all(n, true))
		holds(t, all(n, false))
		for range 20 {
			holds(t, randomTruths(r, n))
		}
	}
}

func TestOneTruthAtEachPlace(t *testing.T) {
	for _, n := range []int{1, 2, 7, 8, 9, 15, 16, 17, 64, 65, 300} {
		for i := range n {
			holds(t, one(n, i, true))
			holds(t, one(n, i, false))
		}
	}
	for i := range 3001 {
		b := Put(one(3001, i, true))
		if len(b) != 376 || Count(b) != 1 || b[i/8] != 1<<(i%8) {
			t.Fatalf("one true of 3001 at %d: %x", i, b)
		}
	}
}

// P10.1: behind the last truth the last byte has noughts.
func TestNoughtsAtTheEnd(t *testing.T) {
	for _, n := range lengths() {
		b := Put(all(n, true))
		for i := n; i < 8*len(b); i++ {
			if b[i/8]>>(i%8)&1 != 0 {
				t.Fatalf("Put of %d truths: bit %d is 1: %x", n, i, b)
			}
		}
		if 8*len(b) < n || 8*len(b) > n+7 {
			t.Fatalf("Put of %d truths: %d bytes", n, len(b))
		}
	}
}

// P10.1: every short list of bytes, each with every number of truths near it.
func TestEveryShortList(t *testing.T) {
	for u := range 1 << 16 {
		for _, b := range [][]byte{{byte(u)}, {byte(u), byte(u >> 8)}} {
			for n := -1; n <= 18; n++ {
				agrees(t, b, n)
			}
		}
	}
}

// agrees holds what Get answers against the model.
func agrees(t *testing.T, b []byte, n int) {
	t.Helper()
	before := slices.Clone(b)
	l, ok := Get(b, n)
	want, right := modelGet(b, n)
	if ok != right || !slices.Equal(l, want) {
		t.Fatalf("Get(%x, %d): %v, %v, not %v, %v", b, n, l, ok, want, right)
	}
	if !ok && len(l) != 0 {
		t.Fatalf("Get(%x, %d): %v beside false", b, n, l)
	}
	if ok && !bytes.Equal(Put(l), b) {
		t.Fatalf("Put of %v: %x, not %x", l, Put(l), b)
	}
	if !bytes.Equal(b, before) {
		t.Fatalf("Get changed its argument: %x, not %x", b, before)
	}
}

// P10.1: numbers of truths that no bytes have.
func TestNumbersThatNoBytesHave(t *testing.T) {
	for _, n := range []int{-1, -2, -7, -8, -9, -15, -16, -17, math.MinInt, math.MinInt + 1, math.MinInt + 7, math.MinInt + 8, -1 << 32} {
		for size := range 5 {
			refused(t, make([]byte, size), n)
		}
		refused(t, nil, n)
	}
	for _, n := range []int{math.MaxInt, math.MaxInt - 1, math.MaxInt - 6, math.MaxInt - 7, math.MaxInt - 8, 1 << 62, 1 << 32, 1<<32 + 1} {
		for size := range 5 {
			refused(t, make([]byte, size), n)
		}
		refused(t, nil, n)
	}
}

// P10.1: no truths are no bytes, a nil list and an empty one alike.
func TestNoTruths(t *testing.T) {
	for _, l := range [][]bool{nil, {}, make([]bool, 0, 9)} {
		if b := Put(l); len(b) != 0 {
			t.Errorf("Put of none: %x", b)
		}
	}
	for _, b := range [][]byte{nil, {}, make([]byte, 0, 9)} {
		if l, ok := Get(b, 0); !ok || len(l) != 0 {
			t.Errorf("Get of none: %v, %v", l, ok)
		}
		refused(t, b, 1)
		refused(t, b, 8)
		refused(t, b, 9)
	}
	for _, b := range [][]byte{{0}, {1}, {255}, {0, 0}, make([]byte, 100)} {
		refused(t, b, 0)
	}
}

// P10.1: one byte too few, one too many, whatever they are.
func TestBytesTooFewAndTooMany(t *testing.T) {
	for _, n := range lengths() {
		for _, yes := range []bool{false, true} {
			b := Put(all(n, yes))
			refused(t, append(slices.Clone(b), 0), n)
			refused(t, append(slices.Clone(b), 255), n)
			refused(t, append([]byte{0}, b...), n)
			if n > 0 {
				refused(t, b[:len(b)-1], n)
				refused(t, b[1:], n)
			}
		}
	}
}

// P10.1: each bit behind the truths, by itself, and all of them.
func TestBitsBehindTheTruths(t *testing.T) {
	for _, n := range lengths() {
		for _, yes := range []bool{false, true} {
			b := Put(all(n, yes))
			for i := n; i < 8*len(b); i++ {
				wrong := slices.Clone(b)
				wrong[i/8] |= 1 << (i % 8)
				refused(t, wrong, n)
			}
			if n%8 != 0 {
				wrong := slices.Clone(b)
				wrong[len(wrong)-1] |= 0xff << (n % 8)
				refused(t, wrong, n)
			}
		}
	}
}

// P10.1: Count takes any bytes, whatever number of truths they are of.
func TestCount(t *testing.T) {
	for _, c := range []struct {
		b    []byte
		want int
	}{
		{nil, 0},
		{[]byte{}, 0},
		{[]byte{0}, 0},
		{[]byte{255}, 8},
		{[]byte{5}, 2},
		{[]byte{6, 1}, 3},
		{[]byte{0, 0, 0, 1}, 1},
		{[]byte{0x80, 0, 0}, 1},
		{bytes.Repeat([]byte{255}, 1000), 8000},
		{bytes.Repeat([]byte{0}, 1000), 0},
		{bytes.Repeat([]byte{0x55, 0xaa, 0}, 1000), 8000},
	} {
		if n := Count(c.b); n != c.want {
			t.Errorf("Count(%x): %d, not %d", c.b, n, c.want)
		}
	}
	every := []byte{}
	for x := range 256 {
		b := []byte{byte(x)}
		if n := Count(b); n != modelCount(b) || b[0] != byte(x) {
			t.Errorf("Count(%x): %d, not %d", x, n, modelCount(b))
		}
		every = append(every, byte(x))
	}
	if n := Count(every); n != 1024 {
		t.Errorf("Count of each byte: %d", n)
	}
	r := rand.New(rand.NewSource(11))
	for range 2000 {
		b := make([]byte, r.Intn(100))
		r.Read(b)
		before := slices.Clone(b)
		if n := Count(b); n != modelCount(b) {
			t.Fatalf("Count(%x): %d, not %d", b, n, modelCount(b))
		}
		if !bytes.Equal(b, before) {
			t.Fatalf("Count changed its argument")
		}
	}
}

// Random bytes and numbers, most of them wrong by little.
func TestAsTheModel(t *testing.T) {
	r := rand.New(rand.NewSource(12))
	for range 20000 {
		l := randomTruths(r, r.Intn(80))
		holds(t, l)
		b, n := Put(l), len(l)
		switch r.Intn(4) {
		case 0:
			n += r.Intn(21) - 10
		case 1:
			b = append(b, byte(r.Intn(3)))
		case 2:
			if len(b) > 0 {
				b[len(b)-1] |= 1 << r.Intn(8)
			}
		case 3:
			b = make([]byte, r.Intn(10))
			r.Read(b)
		}
		agrees(t, b, n)
	}
}

// An answer is new memory, its spare room too; what was handed in is neither
// changed nor kept.
func TestAnswersAreNewMemory(t *testing.T) {
	for _, n := range []int{1, 7, 8, 9, 17, 100} {
		l := all(n, true)
		room := append(l, all(n, true)...)
		l = room[:n]
		b := Put(l)
		again := Put(l)
		want := slices.Clone(b)
		clear(again[:cap(again)])
		clear(l)
		if !bytes.Equal(b, want) {
			t.Fatalf("Put of %d truths: it shares memory", n)
		}
		if !slices.Equal(room[n:], all(n, true)) {
			t.Fatalf("Put of %d truths: it changed the spare room", n)
		}

		wide := append(slices.Clone(b), 0xaa, 0xbb, 0xcc)
		handed := wide[:len(b)]
		x, ok := Get(handed, n)
		y, right := Get(handed, n)
		if !ok || !right {
			t.Fatalf("Get(%x, %d): false", handed, n)
		}
		clear(y[:cap(y)])
		clear(handed)
		if !slices.Equal(x, all(n, true)) {
			t.Fatalf("Get of %d truths: it shares memory", n)
		}
		clear(x[:cap(x)])
		if string(wide[len(b):]) != "\xaa\xbb\xcc" {
			t.Fatalf("Get of %d truths: it changed the spare room", n)
		}
		if z, ok := Get(want, n); !ok || !slices.Equal(z, all(n, true)) {
			t.Fatalf("Get of %d truths: it kept what it answered", n)
		}
	}
}

// The spare room of what is handed in says nothing.
func TestSpareRoomSaysNothing(t *testing.T) {
	wide := bytes.Repeat([]byte{255}, 20)
	refused(t, wide[:0], 8)
	refused(t, wide[:1], 16)
	if l, ok := Get(wide[:0], 0); !ok || len(l) != 0 {
		t.Errorf("Get of none: %v, %v", l, ok)
	}
	if n := Count(wide[:1]); n != 8 {
		t.Errorf("Count: %d", n)
	}
	if b := Put(all(20, true)[:3]); string(b) != "\x07" {
		t.Errorf("Put: %x", b)
	}
}

func FuzzAsTheModel(f *testing.F) {
	f.Add([]byte{5}, 3)
	f.Add([]byte{5}, 2)
	f.Add([]byte{}, 0)
	f.Add([]byte{6, 1}, 9)
	f.Add([]byte{0}, math.MaxInt)
	f.Add([]byte{}, math.MinInt)
	f.Fuzz(func(t *testing.T, b []byte, n int) {
		agrees(t, b, n)
		if Count(b) != modelCount(b) {
			t.Fatalf("Count(%x): %d", b, Count(b))
		}
		for n := 8*len(b) - 9; n < 8*len(b)+10; n++ {
			agrees(t, b, n)
		}
		l, ok := Get(b, 8*len(b))
		if !ok {
			t.Fatalf("Get(%x): false", b)
		}
		holds(t, l)
	})
}
