package bits

import (
	"bytes"
	"encoding/binary"
	"math"
	"math/big"
	"math/rand"
	"slices"
	"testing"

	"strongroom/api"
)

// modelAbove is of the plain model: what x is above least, as a number of any size.
func modelAbove(x, least int) *big.Int {
	return new(big.Int).Sub(big.NewInt(int64(x)), big.NewInt(int64(least)))
}

// written is the form of a least number, a width and differences, whether Put
// would ever write them or not. All of the differences are one great number,
// whose bytes stand the other way about.
func written(least, width int, list ...*big.Int) []byte {
	b := append(binary.AppendVarint(nil, int64(least)), byte(width))
	great := new(big.Int)
	for i, x := range list {
		great.Or(great, new(big.Int).Lsh(x, uint(i*width)))
	}
	body := great.FillBytes(make([]byte, (len(list)*width+7)/8))
	slices.Reverse(body)
	return append(b, body...)
}

// small answers the differences as numbers of any size.
func small(list ...uint64) []*big.Int {
	all := []*big.Int{}
	for _, x := range list {
		all = append(all, new(big.Int).SetUint64(x))
	}
	return all
}

func modelPut(l []int) []byte {
	if len(l) == 0 {
		return []byte{}
	}
	least, width := l[0], 0
	for _, x := range l {
		least = min(least, x)
	}
	list := []*big.Int{}
	for _, x := range l {
		difference := modelAbove(x, least)
		width = max(width, difference.BitLen())
		list = append(list, difference)
	}
	return written(least, width, list...)
}

// modelGet reads b loosely, and holds what it read against how it is written.
func modelGet(b []byte, n int) ([]int, bool) {
	if n < 0 || n > 256 {
		return nil, false
	}
	least, size := binary.Varint(b)
	if n == 0 || size <= 0 || len(b) == size {
		return nil, n == 0 && len(b) == 0
	}
	width, body := int(b[size]), slices.Clone(b[size+1:])
	slices.Reverse(body)
	great, one := new(big.Int).SetBytes(body), big.NewInt(1)
	mask := new(big.Int).Sub(new(big.Int).Lsh(one, uint(width)), one)
	l := []int{}
	for i := range n {
		x := new(big.Int).Rsh(great, uint(i*width))
		x.And(x, mask).Add(x, big.NewInt(least))
		if !x.IsInt64() {
			return nil, false
		}
		l = append(l, int(x.Int64()))
	}
	return l, bytes.Equal(modelPut(l), b)
}

// extremes has the numbers at which the bytes of a number become more, and the
// least and the greatest of all.
func extremes() []int {
	list := []int{0, math.MinInt, math.MinInt + 1, math.MaxInt, math.MaxInt - 1}
	for shift := 6; shift < 63; shift += 7 {
		edge := 1 << shift
		list = append(list, edge-1, edge, edge+1, -edge-1, -edge, -edge+1)
	}
	return list
}

// randomList has n numbers, none of which is far from the others, or some.
func randomList(r *rand.Rand, n int) []int {
	from, width := extremes()[r.Intn(len(extremes()))], r.Intn(65)
	l := make([]int, n)
	for i := range l {
		far := r.Uint64() >> (64 - width)
		if r.Intn(4) == 0 {
			far = r.Uint64() >> (64 - r.Intn(width+1))
		}
		l[i] = int(uint64(from) + far)
	}
	return l
}

// wide has n numbers, of just that width: least, what is the furthest from it,
// and between these whatever r says.
func wide(r *rand.Rand, least, width, n int) []int {
	l := make([]int, n)
	for i := range l {
		l[i] = int(uint64(least) + r.Uint64()>>(64-width))
	}
	l[r.Intn(n)] = least
	if width > 0 {
		i := slices.Index(l, least)
		l[(i+1+r.Intn(n-1))%n] = int(uint64(least) + math.MaxUint64>>(64-width))
	}
	return l
}

func same(x, n int) []int {
	return slices.Repeat([]int{x}, n)
}

// count answers n numbers, one behind the other.
func count(n int) []int {
	l := make([]int, n)
	for i := range l {
		l[i] = i - 100
	}
	return l
}

// holds puts l and gets it again, and holds all that is answered against the
// model.
func holds(t *testing.T, l []int) {
	t.Helper()
	before := slices.Clone(l)
	b := Put(l)
	if want := modelPut(l); !bytes.Equal(b, want) {
		t.Fatalf("Put of %v: %x, not %x", l, b, want)
	}
	if !slices.Equal(l, before) {
		t.Fatalf("Put changed its argument: %v, not %v", l, before)
	}
	got, ok := Get(b, len(l))
	if len(l) > 256 {
		if ok || len(got) != 0 {
			t.Fatalf("Get of %d numbers: %v, %v", len(l), got, ok)
		}
		return
	}
	if !ok || !slices.Equal(got, l) {
		t.Fatalf("Get(%x, %d): %v, %v, not %v", b, len(l), got, ok, l)
	}
	agrees(t, b, len(l)-1)
	agrees(t, b, len(l)+1)
}

// refused asks for n numbers that b hasn't in that form.
func refused(t *testing.T, b []byte, n int) {
	t.Helper()
	before := slices.Clone(b)
	if l, ok := Get(b, n); ok || len(l) != 0 {
		t.Fatalf("Get(%x, %d): %v, %v, not false", b, n, l, ok)
	}
	if !bytes.Equal(b, before) {
		t.Fatalf("Get changed its argument: %x, not %x", b, before)
	}
}

// refusedByAll asks for each number of numbers that may be asked for.
func refusedByAll(t *testing.T, b []byte) {
	t.Helper()
	for n := -1; n <= api.MaxRows+1; n++ {
		refused(t, b, n)
	}
}

// agrees holds what Get answers against the model.
func agrees(t *testing.T, b []byte, n int) {
	t.Helper()
	before := slices.Clone(b)
	l, ok := Get(b, n)
	want, right := modelGet(b, n)
	if !right {
		want = nil
	}
	if ok != right || !slices.Equal(l, want) {
		t.Fatalf("Get(%x, %d): %v, %v, not %v, %v", b, n, l, ok, want, right)
	}
	if ok && !bytes.Equal(Put(l), b) {
		t.Fatalf("Put of %v: %x, not %x", l, Put(l), b)
	}
	if !bytes.Equal(b, before) {
		t.Fatalf("Get changed its argument: %x, not %x", b, before)
	}
}

// P12.1: the document's example, and forms written out.
func TestForm(t *testing.T) {
	const least = "\xff\xff\xff\xff\xff\xff\xff\xff\xff\x01"
	for _, c := range []struct {
		l    []int
		want string
	}{
		{nil, ""},
		{[]int{}, ""},
		{[]int{10, 12, 11}, "\x14\x02\x18"},
		{[]int{0}, "\x00\x00"},
		{[]int{-1}, "\x01\x00"},
		{[]int{5, 5, 5}, "\x0a\x00"},
		{[]int{150}, "\xac\x02\x00"},
		{[]int{0, 1}, "\x00\x01\x02"},
		{[]int{1, 0}, "\x00\x01\x01"},
		{[]int{-1, 0}, "\x01\x01\x02"},
		{[]int{3, 0, 1, 2}, "\x00\x02\x93"},
		{[]int{0, 1, 2, 3, 4, 5, 6, 7}, "\x00\x03\x88\xc6\xfa"},
		{[]int{7, 0, 7}, "\x00\x03\xc7\x01"},
		{[]int{0, 0, 0, 0, 0, 0, 0, 0, 1}, "\x00\x01\x00\x01"},
		{[]int{1, 1, 1, 1, 1, 1, 1, 0}, "\x00\x01\x7f"},
		{[]int{0, 255}, "\x00\x08\x00\xff"},
		{[]int{256, 0}, "\x00\x09\x00\x01\x00"},
		{[]int{0, 256}, "\x00\x09\x00\x00\x02"},
		{[]int{-64, 191, -63}, "\x7f\x08\x00\xff\x01"},
		{[]int{math.MinInt}, least + "\x00"},
		{[]int{math.MaxInt}, "\xfe\xff\xff\xff\xff\xff\xff\xff\xff\x01\x00"},
		{[]int{math.MaxInt, math.MaxInt - 1}, "\xfc\xff\xff\xff\xff\xff\xff\xff\xff\x01\x01\x01"},
		{[]int{math.MinInt, math.MaxInt}, least + "\x40\x00\x00\x00\x00\x00\x00\x00\x00\xff\xff\xff\xff\xff\xff\xff\xff"},
		{[]int{math.MinInt, 0}, least + "\x40\x00\x00\x00\x00\x00\x00\x00\x00\x00\x00\x00\x00\x00\x00\x00\x80"},
		{[]int{math.MinInt, -1}, least + "\x3f\x00\x00\x00\x00\x00\x00\x00\x80\xff\xff\xff\xff\xff\xff\xff\x3f"},
	} {
		if b := Put(c.l); string(b) != c.want {
			t.Errorf("Put of %v: %x, not %x", c.l, b, c.want)
		}
		if l, ok := Get([]byte(c.want), len(c.l)); !ok || !slices.Equal(l, c.l) {
			t.Errorf("Get(%x, %d): %v, %v, not %v", c.want, len(c.l), l, ok, c.l)
		}
	}
}

// P12.1: numbers all alike, of each number of them that may be: the same two
// things for all of these, the least number and a width of 0.
func TestAllAlike(t *testing.T) {
	for _, x := range []int{0, -1, 5, 150, math.MinInt, math.MaxInt} {
		want := append(binary.AppendVarint(nil, int64(x)), 0)
		for n := 1; n <= api.MaxRows+2; n++ {
			holds(t, same(x, n))
			if b := Put(same(x, n)); !bytes.Equal(b, want) {
				t.Fatalf("Put of %d times %d: %x, not %x", n, x, b, want)
			}
			l, ok := Get(want, n)
			if ok != (n <= api.MaxRows) || ok && !slices.Equal(l, same(x, n)) {
				t.Fatalf("Get(%x, %d): %v, %v", want, n, l, ok)
			}
		}
		refused(t, want, 0)
		refused(t, want, -1)
	}
}

// P12.1: numbers close together, in any order, of each number of them.
func TestCloseTogether(t *testing.T) {
	for n := range api.MaxRows + 3 {
		l := count(n)
		holds(t, l)
		slices.Reverse(l)
		holds(t, l)
		for i := range l {
			l[i] = 1000 + i*i%7
		}
		holds(t, l)
		for i := range l {
			l[i] = math.MaxInt - i%2
		}
		holds(t, l)
	}
}

// P12.1: each width, from the first difference that needs it to the last one
// that it holds, in lists of many lengths.
func TestEveryWidth(t *testing.T) {
	r := rand.New(rand.NewSource(1))
	for width := 1; width <= 64; width++ {
		first, last := uint64(1)<<(width-1), uint64(math.MaxUint64)>>(64-width)
		for _, difference := range []uint64{first, last, first + (last-first)/3} {
			low := max(math.MinInt, -1<<(width-1))
			for _, l := range [][]int{{low, int(uint64(low) + difference)}, {int(uint64(low) + difference), low, low}} {
				holds(t, l)
				if b := Put(l); int(b[len(b)-1-(len(l)*width+7)/8]) != width {
					t.Fatalf("Put of %v: %x, whose width isn't %d", l, b, width)
				}
			}
		}
		for n := 2; n <= 40; n++ {
			holds(t, wide(r, math.MinInt, width, n))
			holds(t, wide(r, -1<<(width-1), width, n))
		}
		for _, n := range []int{255, 256, 257, 300} {
			holds(t, wide(r, math.MinInt, width, n))
		}
		if width < 64 {
			holds(t, wide(r, 0, width, 19))
			holds(t, wide(r, math.MaxInt-int(last), width, 19))
		}
	}
}

// P12.1: any two numbers, the least and the greatest among them, and what lies
// between.
func TestLeastAndGreatest(t *testing.T) {
	list := extremes()
	for _, x := range list {
		holds(t, []int{x})
		holds(t, same(x, 256))
		for _, y := range list {
			holds(t, []int{x, y})
			holds(t, []int{x, y, x})
			holds(t, []int{y, y, x, 0})
		}
	}
	holds(t, list)
	both := slices.Repeat([]int{math.MaxInt, math.MinInt}, 128)
	holds(t, both)
	holds(t, append(both, 0))
}

// P12.1: Put knows no limit; Get has one.
func TestMoreThanMaxRows(t *testing.T) {
	for _, n := range []int{257, 258, 300, 1000, 7000} {
		holds(t, same(3, n))
		holds(t, count(n))
	}
	for n := 257; n < 300; n++ {
		refused(t, Put(same(3, n)), n)
		refused(t, Put(count(n)), n)
	}
	r := rand.New(rand.NewSource(2))
	for range 100 {
		holds(t, randomList(r, 257+r.Intn(500)))
	}
}

// P12.1: no numbers are nothing, a nil list and an empty one alike; and nothing
// are no numbers.
func TestNoNumbers(t *testing.T) {
	for _, l := range [][]int{nil, {}, make([]int, 0, 9)} {
		holds(t, l)
		if b := Put(l); len(b) != 0 {
			t.Errorf("Put of none: %x", b)
		}
	}
	for _, b := range [][]byte{nil, {}, make([]byte, 0, 9)} {
		if l, ok := Get(b, 0); !ok || len(l) != 0 {
			t.Errorf("Get of none: %v, %v", l, ok)
		}
		for n := -1; n <= api.MaxRows+1; n++ {
			if n != 0 {
				refused(t, b, n)
			}
		}
	}
	for x := range 256 {
		refused(t, []byte{byte(x)}, 0)
		refused(t, []byte{byte(x), 0}, 0)
		refused(t, []byte{0, byte(x)}, 0)
	}
	refused(t, Put([]int{1, 2, 3}), 0)
}

// P12.1: n not from 0 to MaxRows, whatever the bytes are.
func TestNumbersOfNumbers(t *testing.T) {
	wrong := []int{-1, -2, -256, -257, math.MinInt, math.MinInt + 1, -1 << 32, 257, 258, 512, 1 << 16, 1 << 32, 1<<32 + 2, 1<<32 + 256, 1 << 58, 1 << 61, 1<<61 + 1, 1 << 62, math.MaxInt, math.MaxInt - 1}
	for _, n := range wrong {
		for _, l := range [][]int{nil, {0}, {0, 0}, {0, 1}, {1, 0, 3}, same(4, 255), same(4, 256), count(256), count(257), {math.MinInt, math.MaxInt}} {
			refused(t, Put(l), n)
		}
	}
	r := rand.New(rand.NewSource(3))
	for _, width := range []int{1, 2, 3, 7, 8, 9, 63, 64} {
		for _, n := range []int{2, 3, 8, 9, 100, 254, 255, 256} {
			b := Put(wide(r, math.MinInt, width, n))
			for m := -2; m <= api.MaxRows+2; m++ {
				agrees(t, b, m)
				if (m*width+7)/8 != (n*width+7)/8 {
					refused(t, b, m)
				}
			}
		}
	}
}

// P12.1: one number fewer and one more than there are, when they need as many
// bytes: fewer are there if what is behind them is nought and need be.
func TestOneFewerAndOneMore(t *testing.T) {
	for _, c := range []struct {
		l           []int
		fewer, more bool
	}{
		{[]int{0, 1, 1}, false, true},
		{[]int{0, 1, 0}, true, true},
		{[]int{1, 0}, false, true},
		{[]int{0, 0, 1, 0}, true, true},
		{[]int{0, 0, 0, 1}, false, true},
		{[]int{0, 1, 0, 0, 0, 0, 0, 0}, true, false},
		{[]int{5, 5}, true, true},
		{[]int{5}, false, true},
		{[]int{0, 3, 0, 0}, true, false},
		{[]int{0, 3, 1}, false, true},
		{[]int{0, 4, 0}, false, true},
		{[]int{0, 128, 0}, false, false},
	} {
		b, n := Put(c.l), len(c.l)
		fewer, ok := Get(b, n-1)
		if ok != c.fewer || ok && !slices.Equal(fewer, c.l[:n-1]) {
			t.Errorf("Get(%x, %d): %v, %v", b, n-1, fewer, ok)
		}
		more, ok := Get(b, n+1)
		if ok != c.more || ok && !slices.Equal(more, append(c.l, slices.Min(c.l))) {
			t.Errorf("Get(%x, %d): %v, %v", b, n+1, more, ok)
		}
	}
}

// lists has some lists, most of them short.
func lists() [][]int {
	all := [][]int{nil, {0}, {-1, -1}, {10, 12, 11}, {0, 1}, {64, 64, -65, 300, 300, 300}, {math.MinInt, math.MaxInt}, {math.MaxInt, 0}, same(150, 256), count(40)}
	r := rand.New(rand.NewSource(4))
	for n := range 24 {
		all = append(all, randomList(r, n))
	}
	for width := range 65 {
		all = append(all, wide(r, math.MinInt, width, 3))
	}
	return all
}

// P12.1: what Put writes, cut short at each place, and with one byte more.
func TestCutShortAndOneMore(t *testing.T) {
	for _, l := range lists() {
		b := Put(l)
		for cut := range b {
			refused(t, b[:cut], len(l))
			if cut > 0 {
				agrees(t, b[cut:], len(l))
			}
		}
		for x := range 256 {
			refused(t, append(slices.Clone(b), byte(x)), len(l))
			agrees(t, append([]byte{byte(x)}, b...), len(l))
		}
	}
}

// P12.1: what Put writes, with each byte turned to each other one.
func TestOneByteTurned(t *testing.T) {
	for _, l := range lists() {
		b := Put(l)
		for i := range b {
			for x := 1; x < 256; x++ {
				wrong := slices.Clone(b)
				wrong[i] ^= byte(x)
				agrees(t, wrong, len(l))
			}
		}
	}
}

// P12.1: a width greater than it need be, if by one bit, and one that is too
// small for what comes behind it.
func TestOtherWidths(t *testing.T) {
	r := rand.New(rand.NewSource(5))
	for width := range 65 {
		l := wide(r, math.MinInt, width, 5)
		list := []*big.Int{}
		for _, x := range l {
			list = append(list, modelAbove(x, math.MinInt))
		}
		if l, ok := Get(written(math.MinInt, width, list...), 5); !ok {
			t.Fatalf("a width of %d: %v, %v", width, l, ok)
		}
		for more := width + 1; more <= 255; more++ {
			refused(t, written(math.MinInt, more, list...), 5)
		}
		right := Put(l)
		for other := range 65 {
			wrong := slices.Clone(right)
			wrong[10] = byte(other)
			agrees(t, wrong, 5)
		}
	}
	for width := 1; width <= 64; width++ {
		refused(t, written(5, width, small(0)...), 1)
		refused(t, written(5, width, small(0, 0, 0)...), 3)
	}
}

// P12.1: a width above 64, with as many bytes as that asks for, or as others
// would.
func TestWidthAboveAll(t *testing.T) {
	far := small(0, math.MaxUint64)
	if l, ok := Get(written(math.MinInt, 64, far...), 2); !ok || !slices.Equal(l, []int{math.MinInt, math.MaxInt}) {
		t.Fatalf("a width of 64: %v, %v", l, ok)
	}
	for width := 65; width < 256; width++ {
		refused(t, written(math.MinInt, width, far...), 2)
		refused(t, written(0, width, small(0, 1)...), 2)
		refused(t, written(0, width, small(0)...), 1)
		for long := range 70 {
			refused(t, append([]byte{10, byte(width)}, make([]byte, long)...), 1)
			refused(t, append([]byte{10, byte(width)}, bytes.Repeat([]byte{255}, long)...), 2)
		}
		refusedByAll(t, []byte{10, byte(width)})
		// The widest difference ends with a 1 that only that width has room for.
		great := new(big.Int).Lsh(big.NewInt(1), uint(width-1))
		refused(t, written(math.MinInt, width, append(small(0), great)...), 2)
	}
}

// P12.1: a least number that none of the numbers is.
func TestLeastThatNoneIs(t *testing.T) {
	for _, least := range extremes()[1:] {
		for width := 1; width <= 64; width++ {
			first := uint64(1) << (width - 1)
			refused(t, written(least, width, small(first)...), 1)
			refused(t, written(least, width, small(first, first)...), 2)
			refused(t, written(least, width, small(1, first, 1)...), 3)
			refused(t, written(least, width, small(first, first|1, first)...), 3)
		}
	}
	r := rand.New(rand.NewSource(6))
	for range 300 {
		list := make([]uint64, 2+r.Intn(255))
		for i := range list {
			list[i] = 1 + r.Uint64()%255
		}
		list[0] = 255
		refused(t, written(-9, 8, small(list...)...), len(list))
		list[1+r.Intn(len(list)-1)] = 0
		if l, ok := Get(written(-9, 8, small(list...)...), len(list)); !ok || slices.Min(l) != -9 || l[0] != 246 {
			t.Fatalf("a least number that one is: %v, %v", l, ok)
		}
	}
}

// P12.1: bits behind the last difference that aren't noughts, each of them.
func TestNoughtsAtTheEnd(t *testing.T) {
	r := rand.New(rand.NewSource(7))
	for width := 1; width <= 64; width++ {
		for n := 2; n <= 10; n++ {
			b := Put(wide(r, math.MinInt, width, n))
			for free := range (8 - n*width%8) % 8 {
				wrong := slices.Clone(b)
				wrong[len(wrong)-1] |= 0x80 >> free
				refused(t, wrong, n)
			}
		}
	}
}

// P12.1: differences that lead beyond the greatest number, by one, or round to
// what is a number again.
func TestBeyondTheGreatest(t *testing.T) {
	for _, least := range extremes() {
		room := uint64(math.MaxInt) - uint64(least)
		for _, difference := range []uint64{room, room - 1, room / 2} {
			if difference > room {
				continue
			}
			width := new(big.Int).SetUint64(difference).BitLen()
			l, ok := Get(written(least, width, small(0, difference)...), 2)
			if want := []int{least, int(uint64(least) + difference)}; !ok || !slices.Equal(l, want) {
				t.Fatalf("%d and %d above it: %v, %v, not %v", least, difference, l, ok, want)
			}
		}
		if room == math.MaxUint64 {
			continue
		}
		for _, difference := range []uint64{room + 1, room + 1 + (math.MaxUint64-room)/2, math.MaxUint64 - 1, math.MaxUint64} {
			if difference <= room {
				continue
			}
			width := new(big.Int).SetUint64(difference).BitLen()
			refused(t, written(least, width, small(0, difference)...), 2)
			refused(t, written(least, width, small(0, difference, 0)...), 3)
			refused(t, written(least, width, small(difference, 0, difference)...), 3)
			// Beside one that there is room for, and that needs this width.
			if room>>(width-1) == 1 {
				refused(t, written(least, width, small(0, room, difference)...), 3)
				refused(t, written(least, width, small(difference, room, 0)...), 3)
			}
		}
	}
}

// P12.1: the least number not written as Put writes it: with noughts behind it,
// or not within 64 bits, or not to its end.
func TestLeastInOtherForms(t *testing.T) {
	right := []byte{20, 2, 0x18}
	if l, ok := Get(right, 3); !ok || !slices.Equal(l, []int{10, 12, 11}) {
		t.Fatalf("Get(%x, 3): %v, %v", right, l, ok)
	}
	for _, tail := range [][]byte{{2, 0x18}, {0}, {1, 2}, {}} {
		for _, x := range []byte{20, 0, 1, 127} {
			for noughts := range 12 {
				long := []byte{x | 0x80}
				long = append(long, bytes.Repeat([]byte{0x80}, noughts)...)
				refusedByAll(t, slices.Concat(long, []byte{0}, tail))
				refusedByAll(t, long)
			}
		}
		for _, big := range []string{"\xff\xff\xff\xff\xff\xff\xff\xff\xff\x02", "\x80\x80\x80\x80\x80\x80\x80\x80\x80\x02", "\xff\xff\xff\xff\xff\xff\xff\xff\xff\xff\x01", "\x94\x80\x80\x80\x80\x80\x80\x80\x80\x02", "\xff\xff\xff\xff\xff\xff\xff\xff\xff\x7f"} {
			refusedByAll(t, append([]byte(big), tail...))
		}
	}
	for _, x := range extremes() {
		refusedByAll(t, binary.AppendVarint(nil, int64(x)))
	}
}

// Every list of one or two bytes, and many of three and four, each with every
// number of numbers near it.
func TestEveryShortList(t *testing.T) {
	for u := range 1 << 16 {
		short := []byte{byte(u), byte(u >> 8)}
		for n := -1; n <= 3; n++ {
			agrees(t, short[:1], n)
			agrees(t, short, n)
		}
		for n := 1; n <= 9; n++ {
			agrees(t, []byte{9, byte(u) % 9, byte(u >> 8)}, n)
		}
		if u%5 == 0 {
			for n := 1; n <= 17; n++ {
				agrees(t, []byte{0, 1 + byte(n)%9, byte(u), byte(u >> 8)}, n)
			}
		}
	}
}

// Random lists, and bytes most of which are wrong by little.
func TestAsTheModel(t *testing.T) {
	r := rand.New(rand.NewSource(8))
	for range 20000 {
		l := randomList(r, r.Intn(20))
		if r.Intn(50) == 0 {
			l = randomList(r, r.Intn(258))
		}
		holds(t, l)
		b, n := spoilt(r, Put(l)), len(l)
		agrees(t, b, n)
		agrees(t, b, n+r.Intn(9)-4)
	}
}

// spoilt answers b with one thing changed.
func spoilt(r *rand.Rand, b []byte) []byte {
	if len(b) == 0 {
		return make([]byte, r.Intn(4))
	}
	i := r.Intn(len(b))
	switch r.Intn(5) {
	case 0:
		b[i] ^= 1 << r.Intn(8)
	case 1:
		b[i] = byte(r.Intn(256))
	case 2:
		b = slices.Delete(b, i, i+1)
	case 3:
		b = slices.Insert(b, i, byte(r.Intn(4)))
	case 4:
		b = make([]byte, r.Intn(12))
		for i := range b {
			b[i] = byte(r.Intn(6))
		}
	}
	return b
}

// An answer is new memory, its spare room too; what was handed in is neither
// changed nor kept.
func TestAnswersAreNewMemory(t *testing.T) {
	for _, n := range []int{0, 1, 2, 3, 8, 17, 100, 256} {
		for _, l := range [][]int{same(6, n), count(n), randomList(rand.New(rand.NewSource(int64(n))), n)} {
			putIsNew(t, l)
			getIsNew(t, l)
		}
	}
}

func putIsNew(t *testing.T, list []int) {
	t.Helper()
	room := append(slices.Clone(list), 41, 42, 43)
	l := room[:len(list)]
	b, again := Put(l), Put(l)
	want := slices.Clone(b)
	clear(again[:cap(again)])
	clear(l)
	if !bytes.Equal(b, want) {
		t.Fatalf("Put of %v: it shares memory", list)
	}
	clear(b[:cap(b)])
	if !slices.Equal(room[len(list):], []int{41, 42, 43}) {
		t.Fatalf("Put of %v: it changed the spare room", list)
	}
	if !bytes.Equal(Put(list), want) {
		t.Fatalf("Put of %v: it kept what it answered", list)
	}
}

func getIsNew(t *testing.T, list []int) {
	t.Helper()
	b, n := Put(list), len(list)
	wide := append(slices.Clone(b), 0xaa, 0xbb, 0xcc)
	handed := wide[:len(b)]
	x, ok := Get(handed, n)
	y, right := Get(handed, n)
	if !ok || !right {
		t.Fatalf("Get(%x, %d): false", handed, n)
	}
	clear(y[:cap(y)])
	clear(handed)
	if !slices.Equal(x, list) {
		t.Fatalf("Get of %v: it shares memory", list)
	}
	clear(x[:cap(x)])
	if string(wide[len(b):]) != "\xaa\xbb\xcc" {
		t.Fatalf("Get of %v: it changed the spare room", list)
	}
	if z, ok := Get(b, n); !ok || !slices.Equal(z, list) {
		t.Fatalf("Get of %v: it kept what it answered", list)
	}
}

// The spare room of what is handed in says nothing.
func TestSpareRoomSaysNothing(t *testing.T) {
	wide := []byte{20, 2, 0x18, 0, 0}
	refused(t, wide[:2], 3)
	refused(t, wide[:1], 3)
	refused(t, wide[:0], 3)
	if l, ok := Get(wide[:3], 3); !ok || !slices.Equal(l, []int{10, 12, 11}) {
		t.Errorf("Get: %v, %v", l, ok)
	}
	if l, ok := Get(wide[:0], 0); !ok || len(l) != 0 {
		t.Errorf("Get: %v, %v", l, ok)
	}
	if b := Put([]int{10, 12, 11, 900}[:3]); string(b) != "\x14\x02\x18" {
		t.Errorf("Put: %x", b)
	}
	if b := Put(same(4, 9)[:0]); len(b) != 0 {
		t.Errorf("Put: %x", b)
	}
}

func FuzzAsTheModel(f *testing.F) {
	for _, l := range lists() {
		f.Add(Put(l), len(l))
	}
	f.Add([]byte{10, 65, 0}, 1)
	f.Add([]byte{10, 1, 3}, 2)
	f.Add([]byte{10, 0}, 257)
	f.Add([]byte{10, 0}, -1)
	f.Add([]byte("\xfe\xff\xff\xff\xff\xff\xff\xff\xff\x01\x01\x02"), 2)
	f.Fuzz(func(t *testing.T, b []byte, n int) {
		agrees(t, b, n)
		for n := -1; n <= 20; n++ {
			agrees(t, b, n)
		}
		agrees(t, b, api.MaxRows)
		// The bytes as numbers, some a byte, some eight.
		l := make([]int, len(b))
		for i, x := range b {
			l[i] = int(x)
		}
		holds(t, l)
		l = l[:0]
		for i := 0; i+8 <= len(b); i += 8 {
			l = append(l, int(binary.LittleEndian.Uint64(b[i:])))
		}
		holds(t, l)
	})
}
