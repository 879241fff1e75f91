package dict

import (
	"bytes"
	"encoding/binary"
	"math"
	"math/big"
	"math/bits"
	"math/rand"
	"slices"
	"sort"
	"strings"
	"testing"

	"strongroom/api"
)

// form is of the plain model: what stands in bytes, whether Put would ever
// write it or not.
type form struct {
	told    uint64 // how many texts it says there are
	texts   []string
	least   int
	width   int
	numbers []uint64 // what is above the least one
}

// written has all numbers as one great number, whose bytes stand the other way
// about.
func written(f form) []byte {
	b := binary.AppendUvarint(nil, f.told)
	for _, s := range f.texts {
		b = binary.AppendUvarint(b, uint64(len(s)))
		b = append(b, s...)
	}
	if len(f.numbers) == 0 {
		return b
	}
	b = append(binary.AppendVarint(b, int64(f.least)), byte(f.width))
	great := new(big.Int)
	for i, x := range f.numbers {
		shifted := new(big.Int).Lsh(new(big.Int).SetUint64(x), uint(i*f.width))
		great.Or(great, shifted)
	}
	body := great.FillBytes(make([]byte, (len(f.numbers)*f.width+7)/8))
	slices.Reverse(body)
	return append(b, body...)
}

// formOf is the form in which l's texts are written.
func formOf(l []string) form {
	var f form
	for i, s := range l {
		if slices.Index(l, s) == i {
			f.texts = append(f.texts, s)
		}
	}
	sort.Slice(f.texts, func(i, j int) bool { return bytes.Compare([]byte(f.texts[i]), []byte(f.texts[j])) < 0 })
	f.told = uint64(len(f.texts))
	if len(l) > 0 {
		f.width = bits.Len(uint(len(f.texts) - 1))
	}
	for _, s := range l {
		f.numbers = append(f.numbers, uint64(slices.Index(f.texts, s)))
	}
	return f
}

func modelPut(l []string) []byte {
	return written(formOf(l))
}

// modelText reads a text at the beginning of b, and answers what is left.
func modelText(b []byte) (string, []byte, bool) {
	size, took := binary.Uvarint(b)
	if took <= 0 || size > uint64(len(b)-took) {
		return "", nil, false
	}
	return string(b[took : took+int(size)]), b[took+int(size):], true
}

// modelNumbers reads n numbers of the width that b says, none of them great.
func modelNumbers(b []byte, n int) ([]int, bool) {
	least, took := binary.Varint(b)
	if n == 0 || took <= 0 || len(b) == took {
		return nil, n == 0
	}
	width, body := uint(b[took]), slices.Clone(b[took+1:])
	slices.Reverse(body)
	great, one := new(big.Int).SetBytes(body), big.NewInt(1)
	mask := new(big.Int).Sub(new(big.Int).Lsh(one, width), one)
	l := []int{}
	for i := range n {
		x := new(big.Int).Rsh(great, uint(i)*width)
		x.And(x, mask).Add(x, big.NewInt(least))
		if !x.IsInt64() {
			return nil, false
		}
		l = append(l, int(x.Int64()))
	}
	return l, true
}

// modelGet reads b loosely, and holds what it read against how it is written.
func modelGet(b []byte, n int) ([]string, bool) {
	told, took := binary.Uvarint(b)
	if n < 0 || n > 256 || took <= 0 || told > 256 {
		return nil, false
	}
	texts, left := []string{}, b[took:]
	for range told {
		s, behind, ok := modelText(left)
		if !ok {
			return nil, false
		}
		texts, left = append(texts, s), behind
	}
	numbers, ok := modelNumbers(left, n)
	if !ok {
		return nil, false
	}
	l := []string{}
	for _, x := range numbers {
		if x < 0 || x >= len(texts) {
			return nil, false
		}
		l = append(l, texts[x])
	}
	return l, bytes.Equal(modelPut(l), b)
}

func same(s string, n int) []string {
	return slices.Repeat([]string{s}, n)
}

// unlike answers n texts, no two of them alike, as many ahead of the one ahead
// of them as behind it.
func unlike(n int) []string {
	l := make([]string, n)
	for i := range l {
		l[i] = "t" + strings.Repeat("\xff", i/200) + string([]byte{byte(i * 77 % 200)})
	}
	return l
}

// randomText is short mostly, and often the beginning of another one.
func randomText(r *rand.Rand) string {
	long := r.Intn(4)
	if r.Intn(30) == 0 {
		long = r.Intn(300)
	}
	b := make([]byte, long)
	for i := range b {
		b[i] = []byte{0, 'a', 'b', 0x7f, 0x80, 0xff}[r.Intn(6)]
	}
	return string(b)
}

// randomList has n texts of some kinds.
func randomList(r *rand.Rand, n int) []string {
	kinds := make([]string, 1+r.Intn(20))
	for i := range kinds {
		kinds[i] = randomText(r)
	}
	l := make([]string, n)
	for i := range l {
		l[i] = kinds[r.Intn(len(kinds))]
	}
	return l
}

// lists has some lists, most of them short.
func lists() [][]string {
	all := [][]string{nil, {""}, {"", ""}, {"a"}, {"b", "a", "b"}, {"ab", "", "a"}, {"a", "b"}, {"b", "a"}, {"\xff", "\x00", "\x80"}, {"a", "b", "c", "d", "e"}, same("xyz", 9), same("", 256), {strings.Repeat("q", 128), "q"}, unlike(3), unlike(17), unlike(40)}
	r := rand.New(rand.NewSource(4))
	for n := range 24 {
		all = append(all, randomList(r, n))
	}
	return all
}

// holds puts l and gets it again, and holds all that is answered against the
// model.
func holds(t *testing.T, l []string) {
	t.Helper()
	before := slices.Clone(l)
	b := Put(l)
	if want := modelPut(l); !bytes.Equal(b, want) {
		t.Fatalf("Put of %q: %x, not %x", l, b, want)
	}
	if !slices.Equal(l, before) {
		t.Fatalf("Put changed its argument: %q, not %q", l, before)
	}
	got, ok := Get(b, len(l))
	if len(l) > 256 {
		if ok || len(got) != 0 {
			t.Fatalf("Get of %d texts: %q, %v", len(l), got, ok)
		}
		return
	}
	if !ok || !slices.Equal(got, l) {
		t.Fatalf("Get(%x, %d): %q, %v, not %q", b, len(l), got, ok, l)
	}
	agrees(t, b, len(l)-1)
	agrees(t, b, len(l)+1)
}

// refused asks for n texts that b hasn't in that form.
func refused(t *testing.T, b []byte, n int) {
	t.Helper()
	before := slices.Clone(b)
	if l, ok := Get(b, n); ok || len(l) != 0 {
		t.Fatalf("Get(%x, %d): %q, %v, not false", b, n, l, ok)
	}
	if !bytes.Equal(b, before) {
		t.Fatalf("Get changed its argument: %x, not %x", b, before)
	}
}

// refusedByAll asks for each number of texts that may be asked for.
func refusedByAll(t *testing.T, b []byte) {
	t.Helper()
	for n := -1; n <= api.MaxRows+1; n++ {
		refused(t, b, n)
	}
}

// agrees holds what Get answers against the model.
func agrees(t *testing.T, b []byte, n int) {
	t.Helper()
	before := slices.Clone(b)
	l, ok := Get(b, n)
	want, right := modelGet(b, n)
	if !right {
		want = nil
	}
	if ok != right || !slices.Equal(l, want) {
		t.Fatalf("Get(%x, %d): %q, %v, not %q, %v", b, n, l, ok, want, right)
	}
	if ok && !bytes.Equal(Put(l), b) {
		t.Fatalf("Put of %q: %x, not %x", l, Put(l), b)
	}
	if !bytes.Equal(b, before) {
		t.Fatalf("Get changed its argument: %x, not %x", b, before)
	}
}

// P13.1: the document's example, and forms written out.
func TestForm(t *testing.T) {
	for _, c := range []struct {
		l    []string
		want string
	}{
		{nil, "\x00"},
		{[]string{}, "\x00"},
		{[]string{"b", "a", "b"}, "\x02\x01a\x01b\x00\x01\x05"},
		{[]string{""}, "\x01\x00\x00\x00"},
		{[]string{"", ""}, "\x01\x00\x00\x00"},
		{[]string{"a"}, "\x01\x01a\x00\x00"},
		{[]string{"a", "b"}, "\x02\x01a\x01b\x00\x01\x02"},
		{[]string{"b", "a"}, "\x02\x01a\x01b\x00\x01\x01"},
		{[]string{"ab", "", "a"}, "\x03\x00\x01a\x02ab\x00\x02\x12"},
		{[]string{"b", "ab", "a"}, "\x03\x01a\x02ab\x01b\x00\x02\x06"},
		{[]string{"a", "B", "A", "b"}, "\x04\x01A\x01B\x01a\x01b\x00\x02\xc6"},
		{[]string{"\xff", "\x7f", "\x80", "\x00"}, "\x04\x01\x00\x01\x7f\x01\x80\x01\xff\x00\x02\x27"},
		{[]string{"\x00", "", "\x00\x00"}, "\x03\x00\x01\x00\x02\x00\x00\x00\x02\x21"},
		{[]string{"\U00010000", "\ufffd"}, "\x02\x03\xef\xbf\xbd\x04\xf0\x90\x80\x80\x00\x01\x01"},
		{[]string{"é", "e"}, "\x02\x01e\x02\xc3\xa9\x00\x01\x01"},
		{[]string{"10", "9"}, "\x02\x0210\x019\x00\x01\x02"},
		{[]string{"a", "b", "c", "d", "e"}, "\x05\x01a\x01b\x01c\x01d\x01e\x00\x03\x88\x46"},
		{[]string{"a", "a", "a", "a", "a", "a", "a", "a", "b"}, "\x02\x01a\x01b\x00\x01\x00\x01"},
		{[]string{strings.Repeat("l", 127)}, "\x01\x7f" + strings.Repeat("l", 127) + "\x00\x00"},
		{[]string{strings.Repeat("l", 300)}, "\x01\xac\x02" + strings.Repeat("l", 300) + "\x00\x00"},
	} {
		if b := Put(c.l); string(b) != c.want {
			t.Errorf("Put of %q: %x, not %x", c.l, b, c.want)
		}
		if l, ok := Get([]byte(c.want), len(c.l)); !ok || !slices.Equal(l, c.l) {
			t.Errorf("Get(%x, %d): %q, %v, not %q", c.want, len(c.l), l, ok, c.l)
		}
		holds(t, c.l)
	}
}

// P13.1: texts all alike, of each number of them that may be: the same bytes
// for all of these.
func TestAllAlike(t *testing.T) {
	for _, s := range []string{"", "a", "\x00", "\xff\xfe", strings.Repeat("w", 64), strings.Repeat("\x80", 200)} {
		want := written(form{told: 1, texts: []string{s}, numbers: []uint64{0}})
		for n := 1; n <= api.MaxRows+2; n++ {
			holds(t, same(s, n))
			if b := Put(same(s, n)); !bytes.Equal(b, want) {
				t.Fatalf("Put of %d times %q: %x, not %x", n, s, b, want)
			}
			l, ok := Get(want, n)
			if ok != (n <= api.MaxRows) || ok && !slices.Equal(l, same(s, n)) {
				t.Fatalf("Get(%x, %d): %q, %v", want, n, l, ok)
			}
		}
		refused(t, want, 0)
		refused(t, want, -1)
	}
}

// P13.1: texts all unlike, and each of them twice, of each number of them, in
// any order.
func TestAllUnlike(t *testing.T) {
	for n := range api.MaxRows + 3 {
		l := unlike(n)
		holds(t, l)
		sort.Strings(l)
		holds(t, l)
		slices.Reverse(l)
		holds(t, l)
		if n <= 130 {
			holds(t, slices.Concat(l, l))
			holds(t, slices.Concat(l, unlike(n)))
		}
	}
}

// P13.1: texts that come again and again.
func TestAgainAndAgain(t *testing.T) {
	for kinds := 1; kinds <= 40; kinds++ {
		from := unlike(kinds)
		for _, n := range []int{kinds, kinds + 1, 2*kinds + 3, 100, 255, 256, 257} {
			l := make([]string, n)
			for i := range l {
				l[i] = from[i*i%kinds]
			}
			holds(t, l)
			slices.Reverse(l)
			holds(t, l)
		}
	}
}

// P13.1: texts with any bytes: all of one byte, and all of two in some order.
func TestAnyBytes(t *testing.T) {
	all := make([]string, 256)
	for i := range all {
		all[i] = string([]byte{byte(i)})
	}
	b := Put(all)
	if got, ok := Get(b, 256); !ok || !slices.Equal(got, all) {
		t.Fatalf("Get(%x, 256): %q, %v", b, got, ok)
	}
	for i := range all {
		if b[2+2*i] != 1 || b[3+2*i] != byte(i) {
			t.Fatalf("Put of all bytes: text %d is %x", i, b[2+2*i:4+2*i])
		}
	}
	r := rand.New(rand.NewSource(1))
	for range 30 {
		r.Shuffle(256, func(i, j int) { all[i], all[j] = all[j], all[i] })
		holds(t, all)
	}
	for x := range 256 {
		for _, y := range []int{0, 1, 127, 128, 254, 255} {
			holds(t, []string{string([]byte{byte(x), byte(y)}), string([]byte{byte(y), byte(x)}), string([]byte{byte(x)})})
		}
	}
	holds(t, []string{"\xff\xfe\xfd", "\xed\xa0\x80", "\xc0\x80", "\xef\xbf\xbd", "\x80", ""})
}

// P13.1: texts rise byte by byte: one that another begins with stands ahead of
// it, however long it is.
func TestRisingByteByByte(t *testing.T) {
	for _, rising := range [][]string{
		{"", "\x00", "\x00\x00", "\x00\x01", "\x01", "\x01\x00"},
		{"", "A", "Z", "_", "a", "aA", "aa", "aaa", "ab", "b", "ba"},
		{"\x7f", "\x7f\xff", "\x80", "\xbf", "\xc3\xa9", "\xe2\x82\xac", "\xef\xbf\xbd", "\xf0\x90\x80\x80", "\xff", "\xff\xff"},
		{"1", "10", "11", "2", "9"},
		{strings.Repeat("k", 127), strings.Repeat("k", 128), strings.Repeat("k", 300), strings.Repeat("k", 300) + "\x00", strings.Repeat("k", 299) + "l", "l"},
	} {
		want := form{told: uint64(len(rising)), texts: rising, width: bits.Len(uint(len(rising) - 1))}
		for i := range rising {
			want.numbers = append(want.numbers, uint64(i))
		}
		if b := Put(rising); !bytes.Equal(b, written(want)) {
			t.Errorf("Put of %q: %x, not %x", rising, b, written(want))
		}
		l := slices.Clone(rising)
		slices.Reverse(l)
		slices.Reverse(want.numbers)
		if b := Put(l); !bytes.Equal(b, written(want)) {
			t.Errorf("Put of %q: %x, not %x", l, b, written(want))
		}
		if got, ok := Get(written(want), len(l)); !ok || !slices.Equal(got, l) {
			t.Errorf("Get of %q: %q, %v", l, got, ok)
		}
	}
}

// P13.1: long texts, and many of the longest that a value has.
func TestLongTexts(t *testing.T) {
	l := []string{}
	for _, long := range []int{0, 1, 63, 64, 127, 128, 129, 255, 256, 16383, 16384, 1 << 20} {
		l = append(l, strings.Repeat("\xa5", long))
		holds(t, l)
		holds(t, l[len(l)-1:])
	}
	l = l[:0]
	for i := range 256 {
		l = append(l, strings.Repeat("v", api.MaxBytes-1)+string([]byte{byte(255 - i)}))
	}
	holds(t, l)
}

// P13.1: Put knows no limit; Get has one.
func TestMoreThanMaxRows(t *testing.T) {
	for _, n := range []int{257, 258, 300, 512, 1000} {
		holds(t, same("m", n))
		holds(t, unlike(n))
	}
	for n := 257; n < 300; n++ {
		refused(t, Put(same("m", n)), n)
		refused(t, Put(unlike(n)), n)
		refused(t, Put(unlike(n)), 256)
	}
	r := rand.New(rand.NewSource(2))
	for range 50 {
		holds(t, randomList(r, 257+r.Intn(500)))
	}
}

// P13.1: no texts are a nought, a nil list and an empty one alike; and a nought
// is no texts.
func TestNoTexts(t *testing.T) {
	for _, l := range [][]string{nil, {}, make([]string, 0, 9)} {
		holds(t, l)
		if b := Put(l); string(b) != "\x00" {
			t.Errorf("Put of none: %x", b)
		}
	}
	if l, ok := Get([]byte{0}, 0); !ok || len(l) != 0 {
		t.Errorf("Get of none: %q, %v", l, ok)
	}
	for n := -1; n <= api.MaxRows+1; n++ {
		if n != 0 {
			refused(t, []byte{0}, n)
		}
	}
	for x := range 256 {
		if x > 0 {
			refused(t, []byte{byte(x)}, 0)
		}
		refused(t, []byte{byte(x), 0}, 0)
		refused(t, []byte{0, byte(x)}, 0)
		refusedByAll(t, []byte{0, 0, byte(x)})
		refusedByAll(t, []byte{0, byte(x), 0})
	}
	refused(t, Put([]string{"a", "b"}), 0)
	refused(t, Put([]string{""}), 0)
}

// P13.1: nothing at all is no form of anything.
func TestNoBytes(t *testing.T) {
	refusedByAll(t, nil)
	refusedByAll(t, []byte{})
	refusedByAll(t, make([]byte, 0, 9))
	refused(t, nil, math.MinInt)
	refused(t, nil, math.MaxInt)
}

// P13.1: n not from 0 to MaxRows, whatever the bytes are.
func TestNumbersOfTexts(t *testing.T) {
	wrong := []int{-1, -2, -256, -257, math.MinInt, math.MinInt + 1, -1 << 32, 257, 258, 512, 1 << 16, 1 << 32, 1<<32 + 2, 1<<32 + 256, 1 << 58, 1 << 61, 1<<61 + 1, 1 << 62, math.MaxInt, math.MaxInt - 1}
	for _, l := range [][]string{nil, {""}, {"", ""}, {"a", "b"}, {"b", "", "c"}, same("d", 255), same("d", 256), unlike(256), unlike(257), same("", 300)} {
		for _, n := range wrong {
			refused(t, Put(l), n)
		}
	}
	// As many texts are told as are asked for: far more than there is room for.
	for _, told := range []uint64{257, 1 << 16, 1 << 40, 1 << 62, math.MaxInt64, 1 << 63, math.MaxUint64} {
		for _, n := range wrong {
			refused(t, binary.AppendUvarint(nil, told), n)
			refused(t, append(binary.AppendUvarint(nil, told), "\x01a\x01b\x00\x01\x05"...), n)
		}
	}
	r := rand.New(rand.NewSource(3))
	for _, n := range []int{1, 2, 3, 8, 9, 100, 254, 255, 256} {
		for _, l := range [][]string{same("e", n), unlike(n), randomList(r, n)} {
			b := Put(l)
			for m := -2; m <= api.MaxRows+2; m++ {
				agrees(t, b, m)
			}
		}
	}
}

// P13.1: one text fewer and one more than there are, when they need as many
// bytes: fewer are there if the last one is the first of the list, and not the
// only one of its kind; and one more is the first of the list again.
func TestOneFewerAndOneMore(t *testing.T) {
	for _, c := range []struct {
		l           []string
		fewer, more bool
	}{
		{[]string{"a", "b", "b"}, false, true},
		{[]string{"a", "b", "a"}, true, true},
		{[]string{"b", "a"}, false, true},
		{[]string{"a", "a", "b", "a"}, true, true},
		{[]string{"a", "b", "a", "a", "a", "a", "a", "a"}, true, false},
		{[]string{"a", "b", "a", "a", "a", "a", "a", "b"}, false, false},
		{[]string{"", ""}, true, true},
		{[]string{""}, false, true},
		{[]string{"c", "b", "a", "d"}, false, false},
		{[]string{"c", "b", "a"}, false, true},
		{[]string{"a", "c", "b", "a", "a"}, false, true},
	} {
		b, n := Put(c.l), len(c.l)
		fewer, ok := Get(b, n-1)
		if ok != c.fewer || ok && !slices.Equal(fewer, c.l[:n-1]) {
			t.Errorf("Get(%x, %d): %q, %v", b, n-1, fewer, ok)
		}
		more, ok := Get(b, n+1)
		if ok != c.more || ok && !slices.Equal(more, append(slices.Clone(c.l), slices.Min(c.l))) {
			t.Errorf("Get(%x, %d): %q, %v", b, n+1, more, ok)
		}
	}
}

// P13.1: what Put writes, cut short at each place, and with one byte more.
func TestCutShortAndOneMore(t *testing.T) {
	for _, l := range lists() {
		b := Put(l)
		for cut := range b {
			refused(t, b[:cut], len(l))
			if cut > 0 {
				agrees(t, b[cut:], len(l))
			}
		}
		for x := range 256 {
			refused(t, append(slices.Clone(b), byte(x)), len(l))
			agrees(t, append([]byte{byte(x)}, b...), len(l))
		}
	}
}

// P13.1: what Put writes, with each byte turned to each other one.
func TestOneByteTurned(t *testing.T) {
	for _, l := range lists() {
		b := Put(l)
		if len(b) > 150 {
			continue
		}
		for i := range b {
			for x := 1; x < 256; x++ {
				wrong := slices.Clone(b)
				wrong[i] ^= byte(x)
				agrees(t, wrong, len(l))
			}
		}
	}
}

// right asks for the texts of a form that Put would write: what is wrong of it
// later is wrong by one thing.
func right(t *testing.T, f form) {
	t.Helper()
	if l, ok := Get(written(f), len(f.numbers)); !ok || len(l) != len(f.numbers) {
		t.Fatalf("Get(%x, %d): %q, %v", written(f), len(f.numbers), l, ok)
	}
}

// wrong asks for as many texts as the form has numbers, and for others.
func wrong(t *testing.T, f form) {
	t.Helper()
	refused(t, written(f), len(f.numbers))
	for n := -1; n < len(f.numbers)+9; n++ {
		agrees(t, written(f), n)
	}
}

// P13.1: texts of the list that don't rise: all orders of some, but one.
func TestNotRising(t *testing.T) {
	for _, texts := range [][]string{{"", "a", "b"}, {"a", "aa", "ab"}, {"\x7f", "\x80", "\xff"}, {"a", "b", "ba"}} {
		for _, order := range [][]int{{0, 1, 2}, {0, 2, 1}, {1, 0, 2}, {1, 2, 0}, {2, 0, 1}, {2, 1, 0}} {
			f := form{told: 3, width: 2, numbers: []uint64{0, 1, 2}}
			for _, i := range order {
				f.texts = append(f.texts, texts[i])
			}
			if slices.IsSorted(f.texts) {
				right(t, f)
			} else {
				wrong(t, f)
			}
		}
		wrong(t, form{told: 2, texts: []string{texts[1], texts[0]}, width: 1, numbers: []uint64{0, 1}})
		wrong(t, form{told: 2, texts: []string{texts[2], texts[1]}, width: 1, numbers: []uint64{1, 0, 0}})
	}
	f := formOf(unlike(256))
	right(t, f)
	for i := range 255 {
		f.texts[i], f.texts[i+1] = f.texts[i+1], f.texts[i]
		refused(t, written(f), 256)
		f.texts[i], f.texts[i+1] = f.texts[i+1], f.texts[i]
	}
	right(t, f)
}

// P13.1: a text that is twice in the list, each of the two being named, or one.
func TestTwiceThere(t *testing.T) {
	for _, s := range []string{"", "a", "\x00", "\xff", strings.Repeat("y", 130)} {
		twice := []string{s, s}
		wrong(t, form{told: 2, texts: twice, width: 1, numbers: []uint64{0, 1}})
		wrong(t, form{told: 2, texts: twice, width: 1, numbers: []uint64{1, 0, 1}})
		wrong(t, form{told: 2, texts: twice, numbers: []uint64{0, 0}})
		wrong(t, form{told: 2, texts: twice, least: 1, numbers: []uint64{0, 0}})
		wrong(t, form{told: 3, texts: same(s, 3), width: 2, numbers: []uint64{0, 1, 2}})
		wrong(t, form{told: 3, texts: []string{s, s + "z", s + "z"}, width: 2, numbers: []uint64{2, 1, 0}})
		wrong(t, form{told: 3, texts: []string{s, s, s + "z"}, width: 2, numbers: []uint64{2, 1, 0}})
		wrong(t, form{told: 3, texts: []string{s, s + "z", s}, width: 2, numbers: []uint64{0, 1, 2}})
		right(t, form{told: 3, texts: []string{s, s + "z", s + "zz"}, width: 2, numbers: []uint64{0, 1, 2}})
	}
	refused(t, written(form{told: 256, texts: same("s", 256), numbers: make([]uint64, 256)}), 256)
}

// P13.1: a text that none of the texts is: the first one of the list, one of
// the others, the last one.
func TestTextThatNoneIs(t *testing.T) {
	texts := []string{"a", "b", "c", "d"}
	right(t, form{told: 4, texts: texts, width: 2, numbers: []uint64{3, 2, 1, 0}})
	for none := range uint64(4) {
		f := form{told: 4, texts: texts, width: 2}
		for x := range uint64(4) {
			if x != none {
				f.numbers = append(f.numbers, x, x)
			}
		}
		wrong(t, f)
		f.numbers = append(f.numbers, none)
		right(t, f)
	}
	wrong(t, form{told: 4, texts: texts, least: 1, width: 2, numbers: []uint64{0, 1, 2, 1}})
	wrong(t, form{told: 2, texts: texts[:2], numbers: []uint64{0, 0}})
	wrong(t, form{told: 2, texts: texts[:2], least: 1, numbers: []uint64{0, 0}})
	wrong(t, form{told: 1, texts: texts[:1]})
	wrong(t, form{told: 4, texts: texts})
	wrong(t, form{told: 1, texts: []string{""}})
	// Of 256 texts of the list one isn't named, another twice.
	f := formOf(unlike(256))
	for i := range f.numbers {
		was := f.numbers[i]
		f.numbers[i] = f.numbers[(i+1)%256]
		refused(t, written(f), 256)
		f.numbers[i] = was
	}
	right(t, f)
}

// P13.1: a number that stands for no text: just behind the last one, far behind
// it, below 0.
func TestNumberOfNoText(t *testing.T) {
	for count := 1; count <= 20; count++ {
		f := formOf(unlike(count))
		right(t, f)
		for i := range f.numbers {
			for _, beyond := range []uint64{uint64(count), uint64(count) + 1, 31, 255, 256, 1 << 32, 1 << 62, math.MaxInt64} {
				g := f
				g.numbers = slices.Clone(f.numbers)
				g.numbers[i] = beyond
				g.width = max(f.width, bits.Len64(beyond))
				wrong(t, g)
				// The least of the numbers must be told even so.
				g.numbers = append(slices.Clone(f.numbers), beyond)
				wrong(t, g)
			}
		}
		for _, least := range []int{-1, -2, -20, -256, math.MinInt, math.MinInt + 1, 1, 2, 20, 256, math.MaxInt - 20, math.MaxInt} {
			g := f
			g.least = least
			wrong(t, g)
		}
		// All that are named are there, and one below 0 beside them.
		g := f
		g.least, g.numbers = -1, []uint64{0}
		for i := range count {
			g.numbers = append(g.numbers, uint64(i)+1)
		}
		g.width = bits.Len(uint(count))
		wrong(t, g)
	}
	wrong(t, form{numbers: []uint64{0}})
	wrong(t, form{numbers: []uint64{0, 1}, width: 1})
	wrong(t, form{told: 1, texts: []string{"a"}, least: math.MinInt, width: 64, numbers: []uint64{0, math.MaxUint64}})
	wrong(t, form{told: 1, texts: []string{"a"}, least: math.MinInt, width: 63, numbers: []uint64{0, 1 << 62}})
}

// P13.1: fewer and more texts in the list than are told.
func TestFewerAndMoreTold(t *testing.T) {
	for count := range 20 {
		f := formOf(unlike(count))
		right(t, f)
		for told := range uint64(24) {
			if told != uint64(count) {
				g := f
				g.told = told
				wrong(t, g)
			}
		}
		for _, told := range []uint64{255, 256, 257, 1 << 16, 1 << 31, 1<<32 + uint64(count), 1 << 62, 1 << 63, 1<<63 + uint64(count), math.MaxUint64} {
			g := f
			g.told = told
			wrong(t, g)
			refusedByAll(t, written(g))
		}
	}
	// Just as many texts as are told, more than there are rows.
	f := formOf(unlike(257))
	refusedByAll(t, written(f))
	refusedByAll(t, written(form{told: 257, texts: unlike(257), numbers: make([]uint64, 256)}))
}

// P13.1: a count that isn't written as Put writes it: with noughts behind it,
// or not within 64 bits, or not to its end; or greater than what is left.
func TestCountInOtherForms(t *testing.T) {
	for _, l := range [][]string{nil, {""}, {"a"}, {"b", "a", "b"}, unlike(20)} {
		b := Put(l)
		tail := b[1:]
		for noughts := range 12 {
			long := append([]byte{b[0] | 0x80}, bytes.Repeat([]byte{0x80}, noughts)...)
			refusedByAll(t, slices.Concat(long, []byte{0}, tail))
			refusedByAll(t, slices.Concat(long, tail))
			refusedByAll(t, long)
		}
		for _, big := range []string{"\xff\xff\xff\xff\xff\xff\xff\xff\xff\x02", "\x80\x80\x80\x80\x80\x80\x80\x80\x80\x02", "\xff\xff\xff\xff\xff\xff\xff\xff\xff\xff\x01", "\x82\x80\x80\x80\x80\x80\x80\x80\x80\x02", "\xff\xff\xff\xff\xff\xff\xff\xff\xff\x7f", "\xff\xff\xff\xff\xff\xff\xff\xff\xff\x01", "\x80\x80\x80\x80\x80\x80\x80\x80\x80\x01", "\xff\xff\xff\xff\x0f"} {
			refusedByAll(t, append([]byte(big), tail...))
		}
	}
	for told := range 300 {
		refusedByAll(t, binary.AppendUvarint(nil, uint64(told)+1))
	}
	for told := uint64(5); told <= 256; told++ {
		refusedByAll(t, append(binary.AppendUvarint(nil, told), "\x01a\x01b\x00\x01\x05"...))
	}
}

// P13.1: the length of a text, each of some, not written as Put writes it, or
// greater than what is left.
func TestLengthInOtherForms(t *testing.T) {
	texts := []string{"", "a", "bc"}
	for i := range texts {
		ahead := []byte{3}
		for _, s := range texts[:i] {
			ahead = append(append(ahead, byte(len(s))), s...)
		}
		behind := []byte(texts[i])
		for _, s := range texts[i+1:] {
			behind = append(append(behind, byte(len(s))), s...)
		}
		behind = append(behind, 0, 2, 0x24)
		if l, ok := Get(slices.Concat(ahead, []byte{byte(i)}, behind), 3); !ok || !slices.Equal(l, texts) {
			t.Fatalf("Get of %q: %q, %v", texts, l, ok)
		}
		for noughts := range 12 {
			long := append([]byte{byte(i) | 0x80}, bytes.Repeat([]byte{0x80}, noughts)...)
			refusedByAll(t, slices.Concat(ahead, long, []byte{0}, behind))
			refusedByAll(t, slices.Concat(ahead, long, []byte{0}))
			refusedByAll(t, slices.Concat(ahead, long))
		}
		for _, size := range []uint64{uint64(len(behind)) + 1, 127, 128, 1 << 31, 1<<32 + uint64(i), 1<<63 - 1, 1 << 63, 1<<63 + uint64(i), math.MaxUint64} {
			refusedByAll(t, slices.Concat(ahead, binary.AppendUvarint(nil, size), behind))
		}
		for size := range uint64(len(behind)) + 1 {
			b := slices.Concat(ahead, binary.AppendUvarint(nil, size), behind)
			for n := -1; n < 12; n++ {
				agrees(t, b, n)
			}
		}
		for _, big := range []string{"\xff\xff\xff\xff\xff\xff\xff\xff\xff\x02", "\x81\x80\x80\x80\x80\x80\x80\x80\x80\x02"} {
			refusedByAll(t, slices.Concat(ahead, []byte(big), behind))
		}
	}
	refusedByAll(t, []byte("\x01\x02a"))
	refusedByAll(t, []byte("\x01\x01"))
	refusedByAll(t, []byte("\x01"))
	refusedByAll(t, []byte("\x02\x01a\x05b\x00\x01\x05"))
}

// P13.1: which texts they are, not written as layer 12 writes it.
func TestNumbersInOtherForms(t *testing.T) {
	texts := []string{"a", "b", "c"}
	right(t, form{told: 3, texts: texts, width: 2, numbers: []uint64{2, 0, 1}})
	for width := 3; width <= 255; width++ {
		wrong(t, form{told: 3, texts: texts, width: width, numbers: []uint64{2, 0, 1}})
		refused(t, written(form{told: 1, texts: texts[:1], width: width - 2, numbers: []uint64{0}}), 1)
	}
	for _, head := range []string{"\x00\x01", "\x80\x00\x01", "\x00", "\x80", ""} {
		for x := range 256 {
			b := append([]byte("\x02\x01a\x01b"+head), byte(x))
			for n := -1; n < 10; n++ {
				agrees(t, b, n)
			}
		}
	}
	// Noughts at the end that are none.
	for free := 3; free < 8; free++ {
		refused(t, []byte{2, 1, 'a', 1, 'b', 0, 1, 5 | 1<<free}, 3)
	}
	refusedByAll(t, []byte("\x02\x01a\x01b\x00\x01"))
	refusedByAll(t, []byte("\x02\x01a\x01b\x00"))
	refusedByAll(t, []byte("\x02\x01a\x01b"))
	refusedByAll(t, []byte("\x01\x01a"))
	refusedByAll(t, []byte("\x01\x01a\x00"))
}

// Every list of one or two bytes, and every one of some more, each byte of them
// a small one: whatever they are, Get reads just what Put writes.
func TestEveryShortList(t *testing.T) {
	for u := range 1 << 16 {
		short := []byte{byte(u), byte(u >> 8)}
		for n := -1; n <= 2; n++ {
			agrees(t, short[:1], n)
			agrees(t, short, n)
		}
		agrees(t, []byte{1, byte(u), byte(u >> 8), 0, 0}, 2)
		agrees(t, []byte{2, 0, 1, byte(u), 0, 1, byte(u >> 8)}, 4)
		agrees(t, []byte{2, 1, byte(u), 1, byte(u >> 8), 0, 1, 6}, 3)
	}
	for long := 3; long <= 7; long++ {
		for u := range 1 << (2 * long) {
			b := make([]byte, long)
			for i := range b {
				b[i] = byte(u>>(2*i)) & 3
			}
			for n := range 4 {
				agrees(t, b, n)
			}
		}
	}
}

// Random lists, and bytes most of which are wrong by little.
func TestAsTheModel(t *testing.T) {
	r := rand.New(rand.NewSource(8))
	for range 20000 {
		l := randomList(r, r.Intn(20))
		if r.Intn(50) == 0 {
			l = randomList(r, r.Intn(258))
		}
		holds(t, l)
		b, n := spoilt(r, Put(l)), len(l)
		agrees(t, b, n)
		agrees(t, b, n+r.Intn(9)-4)
	}
}

// spoilt answers b, which isn't empty, with one thing changed.
func spoilt(r *rand.Rand, b []byte) []byte {
	i := r.Intn(len(b))
	switch r.Intn(5) {
	case 0:
		b[i] ^= 1 << r.Intn(8)
	case 1:
		b[i] = byte(r.Intn(256))
	case 2:
		b = slices.Delete(b, i, i+1)
	case 3:
		b = slices.Insert(b, i, byte(r.Intn(4)))
	case 4:
		b = make([]byte, r.Intn(12))
		for i := range b {
			b[i] = byte(r.Intn(6))
		}
	}
	return b
}

// An answer is new memory, its spare room too; what was handed in is neither
// changed nor kept.
func TestAnswersAreNewMemory(t *testing.T) {
	for _, n := range []int{0, 1, 2, 3, 8, 17, 100, 256} {
		for _, l := range [][]string{same("mem", n), unlike(n), randomList(rand.New(rand.NewSource(int64(n))), n)} {
			putIsNew(t, l)
			getIsNew(t, l)
		}
	}
}

func putIsNew(t *testing.T, list []string) {
	t.Helper()
	room := append(slices.Clone(list), "x", "y", "z")
	l := room[:len(list)]
	b, again := Put(l), Put(l)
	want := slices.Clone(b)
	clear(again[:cap(again)])
	clear(l)
	if !bytes.Equal(b, want) {
		t.Fatalf("Put of %q: it shares memory", list)
	}
	clear(b[:cap(b)])
	if !slices.Equal(room[len(list):], []string{"x", "y", "z"}) {
		t.Fatalf("Put of %q: it changed the spare room", list)
	}
	if !bytes.Equal(Put(list), want) {
		t.Fatalf("Put of %q: it kept what it answered", list)
	}
}

func getIsNew(t *testing.T, list []string) {
	t.Helper()
	b, n := Put(list), len(list)
	wide := append(slices.Clone(b), 0xaa, 0xbb, 0xcc)
	handed := wide[:len(b)]
	x, ok := Get(handed, n)
	y, right := Get(handed, n)
	if !ok || !right {
		t.Fatalf("Get(%x, %d): false", handed, n)
	}
	clear(y[:cap(y)])
	clear(handed)
	if !slices.Equal(x, list) {
		t.Fatalf("Get of %q: it shares memory", list)
	}
	clear(x[:cap(x)])
	if string(wide[len(b):]) != "\xaa\xbb\xcc" {
		t.Fatalf("Get of %q: it changed the spare room", list)
	}
	if z, ok := Get(b, n); !ok || !slices.Equal(z, list) {
		t.Fatalf("Get of %q: it kept what it answered", list)
	}
}

// The spare room of what is handed in says nothing.
func TestSpareRoomSaysNothing(t *testing.T) {
	wide := []byte("\x02\x01a\x01b\x00\x01\x05\x00\x00")
	for cut := range 8 {
		refused(t, wide[:cut], 3)
	}
	if l, ok := Get(wide[:8], 3); !ok || !slices.Equal(l, []string{"b", "a", "b"}) {
		t.Errorf("Get: %q, %v", l, ok)
	}
	if l, ok := Get(make([]byte, 1, 9), 0); !ok || len(l) != 0 {
		t.Errorf("Get: %q, %v", l, ok)
	}
	if b := Put([]string{"b", "a", "b", "c"}[:3]); string(b) != "\x02\x01a\x01b\x00\x01\x05" {
		t.Errorf("Put: %x", b)
	}
	if b := Put(same("e", 9)[:0]); string(b) != "\x00" {
		t.Errorf("Put: %x", b)
	}
}

func FuzzAsTheModel(f *testing.F) {
	for _, l := range lists() {
		f.Add(Put(l), len(l))
	}
	f.Add([]byte("\x02\x01a\x01a\x00\x01\x02"), 2)
	f.Add([]byte("\x02\x01b\x01a\x00\x01\x02"), 2)
	f.Add([]byte("\x02\x01a\x01b\x00\x00"), 2)
	f.Add([]byte("\x01\x01a\x00\x01\x02"), 2)
	f.Add([]byte("\xff\xff\xff\xff\xff\x0f"), 0)
	f.Add([]byte("\x00"), -1)
	f.Add([]byte("\x01\x00\x00\x00"), 257)
	f.Fuzz(func(t *testing.T, b []byte, n int) {
		agrees(t, b, n)
		for n := -1; n <= 20; n++ {
			agrees(t, b, n)
		}
		agrees(t, b, api.MaxRows)
		// The bytes as texts, cut where a nought stands, or each by itself.
		holds(t, strings.Split(string(b), "\x00"))
		holds(t, strings.Split(string(b), ""))
		l := make([]string, len(b))
		for i := range b {
			l[i] = string(b[i : i+1])
		}
		holds(t, l)
	})
}
