package runs

import (
	"bytes"
	"encoding/binary"
	"math"
	"math/rand"
	"slices"
	"testing"

	"strongroom/api"
)

// run is of the plain model: a number, and how many of it stand together.
type run struct {
	x    int
	long uint64
}

// modelRuns has a list number by number: each lengthens the last run, or
// begins one of its own.
func modelRuns(l []int) []run {
	list := []run{}
	for i, x := range l {
		if i > 0 && l[i-1] == x {
			list[len(list)-1].long++
		} else {
			list = append(list, run{x, 1})
		}
	}
	return list
}

// written is the form of runs, whether Put would ever write them or not; told
// is how many of them it says there are.
func written(told uint64, list ...run) []byte {
	b := binary.AppendUvarint(nil, told)
	for _, one := range list {
		b = binary.AppendVarint(b, int64(one.x))
		b = binary.AppendUvarint(b, one.long)
	}
	return b
}

func modelPut(l []int) []byte {
	list := modelRuns(l)
	return written(uint64(len(list)), list...)
}

// modelGet reads b loosely, and holds what it read against how it is written.
func modelGet(b []byte, n int) ([]int, bool) {
	if n < 0 || n > 256 {
		return nil, false
	}
	told, size := binary.Uvarint(b)
	if size <= 0 || told > uint64(n) {
		return nil, false
	}
	left, l := b[size:], []int{}
	for range told {
		x, size := binary.Varint(left)
		if size <= 0 {
			return nil, false
		}
		left = left[size:]
		long, size := binary.Uvarint(left)
		if size <= 0 || long > 256 {
			return nil, false
		}
		left = left[size:]
		l = append(l, slices.Repeat([]int{int(x)}, int(long))...)
	}
	return l, len(l) == n && bytes.Equal(modelPut(l), b)
}

// extremes has the numbers at which the bytes of a number become more, and the
// least and the greatest of all.
func extremes() []int {
	list := []int{0, math.MinInt, math.MinInt + 1, math.MaxInt, math.MaxInt - 1}
	for shift := 6; shift < 63; shift += 7 {
		edge := 1 << shift
		list = append(list, edge-1, edge, edge+1, -edge-1, -edge, -edge+1)
	}
	return list
}

// randomList has n numbers, of few kinds, so that runs of many lengths come.
func randomList(r *rand.Rand, n int) []int {
	from := extremes()
	kinds, stay := 1+r.Intn(4), r.Intn(10)
	l := make([]int, n)
	for i := range l {
		if i > 0 && r.Intn(10) < stay {
			l[i] = l[i-1]
		} else {
			l[i] = from[r.Intn(len(from))/kinds]
		}
	}
	return l
}

// count answers n numbers, no two of them alike.
func count(n int) []int {
	l := make([]int, n)
	for i := range l {
		l[i] = i - 100
	}
	return l
}

func same(x, n int) []int {
	return slices.Repeat([]int{x}, n)
}

// holds puts l and gets it again, and holds all that is answered against the
// model.
func holds(t *testing.T, l []int) {
	t.Helper()
	before := slices.Clone(l)
	b := Put(l)
	if want := modelPut(l); !bytes.Equal(b, want) {
		t.Fatalf("Put of %v: %x, not %x", l, b, want)
	}
	if !slices.Equal(l, before) {
		t.Fatalf("Put changed its argument: %v, not %v", l, before)
	}
	got, ok := Get(b, len(l))
	if len(l) > 256 {
		if ok || len(got) != 0 {
			t.Fatalf("Get of %d numbers: %v, %v", len(l), got, ok)
		}
		return
	}
	if !ok || !slices.Equal(got, l) {
		t.Fatalf("Get(%x, %d): %v, %v, not %v", b, len(l), got, ok, l)
	}
	refused(t, b, len(l)-1)
	refused(t, b, len(l)+1)
}

// refused asks for n numbers that b hasn't in that form.
func refused(t *testing.T, b []byte, n int) {
	t.Helper()
	before := slices.Clone(b)
	if l, ok := Get(b, n); ok || len(l) != 0 {
		t.Fatalf("Get(%x, %d): %v, %v, not false", b, n, l, ok)
	}
	if !bytes.Equal(b, before) {
		t.Fatalf("Get changed its argument: %x, not %x", b, before)
	}
}

// refusedByAll asks for each number of numbers that may be asked for.
func refusedByAll(t *testing.T, b []byte) {
	t.Helper()
	for n := -1; n <= api.MaxRows+1; n++ {
		refused(t, b, n)
	}
}

// agrees holds what Get answers against the model.
func agrees(t *testing.T, b []byte, n int) {
	t.Helper()
	before := slices.Clone(b)
	l, ok := Get(b, n)
	want, right := modelGet(b, n)
	if !right {
		want = nil
	}
	if ok != right || !slices.Equal(l, want) {
		t.Fatalf("Get(%x, %d): %v, %v, not %v, %v", b, n, l, ok, want, right)
	}
	if ok && !bytes.Equal(Put(l), b) {
		t.Fatalf("Put of %v: %x, not %x", l, Put(l), b)
	}
	if !bytes.Equal(b, before) {
		t.Fatalf("Get changed its argument: %x, not %x", b, before)
	}
}

// P11.1: the document's example, and forms written out.
func TestForm(t *testing.T) {
	for _, c := range []struct {
		l    []int
		want string
	}{
		{nil, "\x00"},
		{[]int{}, "\x00"},
		{[]int{7, 7, 7, -1}, "\x02\x0e\x03\x01\x01"},
		{[]int{0}, "\x01\x00\x01"},
		{[]int{0, 0}, "\x01\x00\x02"},
		{[]int{1, 0, 1}, "\x03\x02\x01\x00\x01\x02\x01"},
		{[]int{-1}, "\x01\x01\x01"},
		{[]int{-3, -3}, "\x01\x05\x02"},
		{[]int{63, -64}, "\x02\x7e\x01\x7f\x01"},
		{[]int{64, -65}, "\x02\x80\x01\x01\x81\x01\x01"},
		{[]int{150}, "\x01\xac\x02\x01"},
		{same(0, 127), "\x01\x00\x7f"},
		{same(0, 128), "\x01\x00\x80\x01"},
		{same(0, 256), "\x01\x00\x80\x02"},
		{[]int{math.MaxInt}, "\x01\xfe\xff\xff\xff\xff\xff\xff\xff\xff\x01\x01"},
		{[]int{math.MinInt}, "\x01\xff\xff\xff\xff\xff\xff\xff\xff\xff\x01\x01"},
		{[]int{math.MinInt, math.MaxInt, math.MaxInt}, "\x02\xff\xff\xff\xff\xff\xff\xff\xff\xff\x01\x01\xfe\xff\xff\xff\xff\xff\xff\xff\xff\x01\x02"},
	} {
		if b := Put(c.l); string(b) != c.want {
			t.Errorf("Put of %v: %x, not %x", c.l, b, c.want)
		}
		if l, ok := Get([]byte(c.want), len(c.l)); !ok || !slices.Equal(l, c.l) {
			t.Errorf("Get(%x, %d): %v, %v, not %v", c.want, len(c.l), l, ok, c.l)
		}
	}
}

// P11.1: numbers all alike, of each number of them that may be.
func TestAllAlike(t *testing.T) {
	for n := range api.MaxRows + 3 {
		holds(t, same(0, n))
		holds(t, same(-1, n))
		holds(t, same(math.MinInt, n))
		holds(t, same(math.MaxInt, n))
	}
}

// P11.1: numbers no two of which are alike, or no two neighbours.
func TestNoTwoAlike(t *testing.T) {
	for n := range api.MaxRows + 3 {
		l := count(n)
		holds(t, l)
		slices.Reverse(l)
		holds(t, l)
		for i := range l {
			l[i] = i % 2
		}
		holds(t, l)
	}
}

// P11.1: runs of many lengths, one behind another, wherever the one ends.
func TestRunsOfManyLengths(t *testing.T) {
	for _, n := range []int{2, 3, 100, 127, 128, 129, 255, 256, 257} {
		for i := range n + 1 {
			holds(t, append(same(5, i), same(-5, n-i)...))
			for _, j := range []int{i, i + 1, (i + n) / 2, n} {
				if j <= n {
					l := slices.Concat(same(1, i), same(2, j-i), same(1, n-j))
					holds(t, l)
				}
			}
		}
	}
	l := []int{}
	for long := 1; len(l)+long <= api.MaxRows; long++ {
		l = append(l, same(long%3, long)...)
		holds(t, l)
	}
}

// P11.1: numbers whose bytes are one more or fewer, the least and the greatest
// among them, alone, together and beside each other.
func TestLeastAndGreatest(t *testing.T) {
	list := extremes()
	for _, x := range list {
		holds(t, []int{x})
		holds(t, same(x, 256))
		for _, y := range list {
			holds(t, []int{x, y})
			holds(t, []int{x, y, x})
			holds(t, []int{y, y, x})
		}
	}
	holds(t, list)
}

// P11.1: Put knows no limit; Get has one.
func TestMoreThanMaxRows(t *testing.T) {
	for _, n := range []int{257, 258, 300, 1000, 70000} {
		holds(t, same(3, n))
		holds(t, count(n))
	}
	if b := Put(same(-1, 70000)); string(b) != "\x01\x01\xf0\xa2\x04" {
		t.Errorf("Put of 70000: %x", b)
	}
	r := rand.New(rand.NewSource(1))
	for range 100 {
		holds(t, randomList(r, 257+r.Intn(500)))
	}
}

// P11.1: no numbers are one byte, a nil list and an empty one alike.
func TestNoNumbers(t *testing.T) {
	for _, l := range [][]int{nil, {}, make([]int, 0, 9)} {
		holds(t, l)
		if b := Put(l); string(b) != "\x00" {
			t.Errorf("Put of none: %x", b)
		}
	}
	if l, ok := Get([]byte{0}, 0); !ok || len(l) != 0 {
		t.Errorf("Get of none: %v, %v", l, ok)
	}
	for n := 1; n <= 257; n++ {
		refused(t, []byte{0}, n)
	}
	for _, b := range [][]byte{nil, {}, make([]byte, 0, 9)} {
		refusedByAll(t, b)
	}
}

// P11.1: n not from 0 to MaxRows, whatever the bytes are.
func TestNumbersOfNumbers(t *testing.T) {
	wrong := []int{-1, -2, -256, -257, math.MinInt, math.MinInt + 1, -1 << 32, 257, 258, 512, 1 << 16, 1<<32 + 2, 1<<32 + 256, math.MaxInt, math.MaxInt - 1}
	for _, n := range wrong {
		for _, l := range [][]int{nil, {0}, {0, 0}, {1, 0, 1}, same(4, 255), same(4, 256), same(4, 257), count(256), count(257)} {
			refused(t, Put(l), n)
		}
		refused(t, nil, n)
		// The bytes tell a run of just as many, as far as a length goes.
		refused(t, written(1, run{0, uint64(n)}), n)
	}
	for n := range api.MaxRows + 1 {
		for m := -1; m <= api.MaxRows+1; m++ {
			if l, ok := Get(Put(same(9, n)), m); ok != (n == m) || ok && !slices.Equal(l, same(9, n)) {
				t.Fatalf("%d numbers, %d asked for: %v, %v", n, m, l, ok)
			}
		}
	}
}

// lists has some lists, most of them short.
func lists() [][]int {
	all := [][]int{nil, {0}, {0, 0}, {7, 7, 7, -1}, {1, 0, 1}, {64, 64, -65, 300, 300, 300}, {math.MinInt, math.MaxInt}, same(0, 128), same(150, 256), append(same(1, 200), same(2, 56)...)}
	r := rand.New(rand.NewSource(2))
	for n := range 30 {
		all = append(all, randomList(r, n))
	}
	return all
}

// P11.1: what Put writes, cut short at each place, and with one byte more.
func TestCutShortAndOneMore(t *testing.T) {
	for _, l := range lists() {
		b := Put(l)
		for cut := range b {
			refused(t, b[:cut], len(l))
			if cut > 0 {
				agrees(t, b[cut:], len(l))
			}
		}
		for x := range 256 {
			refused(t, append(slices.Clone(b), byte(x)), len(l))
			agrees(t, append([]byte{byte(x)}, b...), len(l))
		}
	}
}

// P11.1: what Put writes, with each byte turned to each other one.
func TestOneByteTurned(t *testing.T) {
	for _, l := range lists() {
		b := Put(l)
		for i := range b {
			for x := 1; x < 256; x++ {
				wrong := slices.Clone(b)
				wrong[i] ^= byte(x)
				agrees(t, wrong, len(l))
			}
		}
	}
}

// P11.1: two runs of one number, one behind the other: it is one run.
func TestTwoRunsOfOneNumber(t *testing.T) {
	for _, x := range extremes() {
		refusedByAll(t, written(2, run{x, 1}, run{x, 1}))
		refusedByAll(t, written(3, run{x - 1, 1}, run{x, 3}, run{x, 1}))
		refusedByAll(t, written(3, run{x, 1}, run{x, 2}, run{x + 1, 1}))
		refusedByAll(t, written(2, run{x, 128}, run{x, 128}))
	}
	if l, ok := Get(written(3, run{0, 1}, run{1, 1}, run{0, 2}), 4); !ok || !slices.Equal(l, []int{0, 1, 0, 0}) {
		t.Errorf("a number that comes again behind another: %v, %v", l, ok)
	}
}

// P11.1: a run of none, wherever it stands.
func TestRunOfNone(t *testing.T) {
	refusedByAll(t, written(1, run{0, 0}))
	refusedByAll(t, written(1, run{5, 0}))
	refusedByAll(t, written(2, run{5, 0}, run{6, 0}))
	refusedByAll(t, written(2, run{5, 0}, run{6, 2}))
	refusedByAll(t, written(2, run{5, 2}, run{6, 0}))
	refusedByAll(t, written(2, run{5, 256}, run{6, 0}))
	refusedByAll(t, written(3, run{5, 1}, run{6, 0}, run{5, 1}))
	refusedByAll(t, written(3, run{5, 1}, run{6, 0}, run{7, 1}))
}

// P11.1: more runs than are told, and fewer.
func TestRunsOtherThanTold(t *testing.T) {
	for _, l := range lists() {
		list := modelRuns(l)
		for told := range uint64(len(list) + 4) {
			if told != uint64(len(list)) {
				refused(t, written(told, list...), len(l))
			}
		}
	}
	refusedByAll(t, written(0, run{1, 1}))
	refusedByAll(t, written(1, run{1, 1}, run{2, 1}))
	refusedByAll(t, written(2, run{1, 1}))
	refusedByAll(t, written(1))
	refusedByAll(t, []byte{1, 0})
	refusedByAll(t, []byte{2, 0, 1, 2})
}

// P11.1: a count of runs or a length that is far too large: the answer is
// there at once.
func TestFarTooLarge(t *testing.T) {
	for _, far := range []uint64{257, 1 << 16, 1 << 31, 1 << 32, 1<<32 + 1, math.MaxInt64, 1 << 63, 1<<63 + 2, math.MaxUint64 - 1, math.MaxUint64} {
		refusedByAll(t, written(far))
		refusedByAll(t, written(far, run{1, 1}))
		refusedByAll(t, written(far, run{1, 1}, run{2, 255}))
		refusedByAll(t, written(far, modelRuns(count(256))...))
		refusedByAll(t, written(1, run{0, far}))
		refusedByAll(t, written(2, run{0, 2}, run{1, far}))
		refusedByAll(t, written(2, run{0, far}, run{1, 2}))
		// Lengths that make a small sum, if they wrap round.
		refusedByAll(t, written(2, run{0, far}, run{1, -far}))
		refusedByAll(t, written(2, run{0, far}, run{1, 2 - far}))
	}
}

// P11.1: numbers not written as Put writes them: with noughts behind them, or
// not within 64 bits.
func TestNumbersInOtherForms(t *testing.T) {
	right := []byte{2, 14, 3, 1, 1}
	if l, ok := Get(right, 4); !ok || !slices.Equal(l, []int{7, 7, 7, -1}) {
		t.Fatalf("Get(%x, 4): %v, %v", right, l, ok)
	}
	for i, x := range right {
		for noughts := range 12 {
			long := []byte{x | 0x80}
			long = append(long, bytes.Repeat([]byte{0x80}, noughts)...)
			refusedByAll(t, slices.Concat(right[:i], long, []byte{0}, right[i+1:]))
		}
		for _, big := range []string{"\xff\xff\xff\xff\xff\xff\xff\xff\xff\x02", "\x80\x80\x80\x80\x80\x80\x80\x80\x80\x02", "\xff\xff\xff\xff\xff\xff\xff\xff\xff\xff\x01", "\x83\x80\x80\x80\x80\x80\x80\x80\x80\x02"} {
			refusedByAll(t, slices.Concat(right[:i], []byte(big), right[i+1:]))
		}
	}
	refusedByAll(t, []byte{0x80})
	refusedByAll(t, []byte{0x80, 0})
	refusedByAll(t, []byte{1, 0, 0x80})
	refusedByAll(t, []byte{1, 0x80, 1})
}

// Every list of one or two bytes, every one run of two more, and many of two
// runs, each with every number of numbers near it.
func TestEveryShortList(t *testing.T) {
	for u := range 1 << 16 {
		short := []byte{byte(u), byte(u >> 8)}
		for n := -1; n <= 3; n++ {
			agrees(t, short[:1], n)
			agrees(t, short, n)
			agrees(t, []byte{1, byte(u), byte(u >> 8)}, n)
		}
		if u%7 == 0 {
			for n := 1; n <= 6; n++ {
				agrees(t, []byte{2, byte(u) % 5, byte(u>>3) % 5, byte(u>>6) % 5, byte(u>>10) % 5}, n)
			}
		}
	}
}

// Random lists, and bytes most of which are wrong by little.
func TestAsTheModel(t *testing.T) {
	r := rand.New(rand.NewSource(3))
	for range 30000 {
		l := randomList(r, r.Intn(40))
		if r.Intn(20) == 0 {
			l = randomList(r, r.Intn(258))
		}
		holds(t, l)
		b, n := spoilt(r, Put(l)), len(l)
		agrees(t, b, n)
		agrees(t, b, n+r.Intn(9)-4)
	}
}

// spoilt answers b with one thing changed.
func spoilt(r *rand.Rand, b []byte) []byte {
	i := r.Intn(len(b))
	switch r.Intn(5) {
	case 0:
		b[i] ^= 1 << r.Intn(8)
	case 1:
		b[i] = byte(r.Intn(256))
	case 2:
		b = slices.Delete(b, i, i+1)
	case 3:
		b = slices.Insert(b, i, byte(r.Intn(4)))
	case 4:
		b = make([]byte, r.Intn(12))
		for i := range b {
			b[i] = byte(r.Intn(6))
		}
	}
	return b
}

// An answer is new memory, its spare room too; what was handed in is neither
// changed nor kept.
func TestAnswersAreNewMemory(t *testing.T) {
	for _, n := range []int{0, 1, 2, 3, 17, 100, 256} {
		for _, l := range [][]int{same(6, n), count(n), randomList(rand.New(rand.NewSource(int64(n))), n)} {
			putIsNew(t, l)
			getIsNew(t, l)
		}
	}
}

func putIsNew(t *testing.T, list []int) {
	t.Helper()
	room := append(slices.Clone(list), 41, 42, 43)
	l := room[:len(list)]
	b, again := Put(l), Put(l)
	want := slices.Clone(b)
	clear(again[:cap(again)])
	clear(l)
	if !bytes.Equal(b, want) {
		t.Fatalf("Put of %v: it shares memory", list)
	}
	clear(b[:cap(b)])
	if !slices.Equal(room[len(list):], []int{41, 42, 43}) {
		t.Fatalf("Put of %v: it changed the spare room", list)
	}
	if !bytes.Equal(Put(list), want) {
		t.Fatalf("Put of %v: it kept what it answered", list)
	}
}

func getIsNew(t *testing.T, list []int) {
	t.Helper()
	b, n := Put(list), len(list)
	wide := append(slices.Clone(b), 0xaa, 0xbb, 0xcc)
	handed := wide[:len(b)]
	x, ok := Get(handed, n)
	y, right := Get(handed, n)
	if !ok || !right {
		t.Fatalf("Get(%x, %d): false", handed, n)
	}
	clear(y[:cap(y)])
	clear(handed)
	if !slices.Equal(x, list) {
		t.Fatalf("Get of %v: it shares memory", list)
	}
	clear(x[:cap(x)])
	if string(wide[len(b):]) != "\xaa\xbb\xcc" {
		t.Fatalf("Get of %v: it changed the spare room", list)
	}
	if z, ok := Get(b, n); !ok || !slices.Equal(z, list) {
		t.Fatalf("Get of %v: it kept what it answered", list)
	}
}

// The spare room of what is handed in says nothing.
func TestSpareRoomSaysNothing(t *testing.T) {
	wide := []byte{1, 0, 2, 0, 0}
	refused(t, wide[:2], 2)
	refused(t, wide[:0], 0)
	if l, ok := Get(wide[:3], 2); !ok || !slices.Equal(l, []int{0, 0}) {
		t.Errorf("Get: %v, %v", l, ok)
	}
	if b := Put(same(4, 9)[:3]); string(b) != "\x01\x08\x03" {
		t.Errorf("Put: %x", b)
	}
	if b := Put(same(4, 9)[:0]); string(b) != "\x00" {
		t.Errorf("Put: %x", b)
	}
}

func FuzzAsTheModel(f *testing.F) {
	for _, l := range lists() {
		f.Add(Put(l), len(l))
	}
	f.Add([]byte{}, 0)
	f.Add([]byte{2, 0, 1, 0, 1}, 2)
	f.Add([]byte{1, 0, 0}, 0)
	f.Add([]byte{1, 0, 0x81, 2}, 257)
	f.Add([]byte("\xff\xff\xff\xff\xff\xff\xff\xff\xff\x01\x00\x01"), 1)
	f.Add([]byte("\x01\x00\xff\xff\xff\xff\xff\xff\xff\xff\xff\x01"), -1)
	f.Fuzz(func(t *testing.T, b []byte, n int) {
		agrees(t, b, n)
		for n := -1; n <= api.MaxRows+1; n++ {
			agrees(t, b, n)
		}
		// The bytes as numbers: runs wherever like ones stand together.
		l := make([]int, len(b))
		for i, x := range b {
			l[i] = 1000 * (int(x) - 128)
		}
		holds(t, l)
	})
}
