package value

import (
	"bytes"
	"encoding/hex"
	"math"
	"math/rand"
	"strconv"
	"strings"
	"testing"

	"strongroom/api"
	"strongroom/float"
	"strongroom/pack"
)

const (
	nan     = uint64(0x7ff8000000000000)
	inf     = uint64(0x7ff0000000000000)
	negInf  = uint64(0xfff0000000000000)
	negZero = uint64(1) << 63
	oneF    = uint64(0x3ff0000000000000)
	halfF   = uint64(0x3fe0000000000000)
)

func intOf(n int) api.Value      { return api.Value{Kind: api.Int, N: n} }
func boolOf(n int) api.Value     { return api.Value{Kind: api.Bool, N: n} }
func bytesOf(s string) api.Value { return api.Value{Kind: api.Bytes, S: s} }
func floatOf(u uint64) api.Value { return api.Value{Kind: api.Float, F: u} }

// rising has right values in the order that P3.1 tells, each once.
func rising() []api.Value {
	list := []api.Value{{}}
	for _, n := range []int{math.MinInt, math.MinInt + 1, -256, -2, -1, 0, 1, 2, 10, 255, math.MaxInt - 1, math.MaxInt} {
		list = append(list, intOf(n))
	}
	list = append(list, boolOf(0), boolOf(1))
	full := strings.Repeat("z", api.MaxBytes)
	for _, s := range []string{"", "\x00", "\x00\x00", "\x00\x01", "\x01", "A", "a", "a\x00", "ab", "abc", "b", "secret", full[1:], full, "\x7f", "\x80", "\xff", "\xff\x00", "\xff\xff"} {
		list = append(list, bytesOf(s))
	}
	for _, u := range []uint64{negInf, 0xffefffffffffffff, oneF | negZero, halfF | negZero, 1 | negZero, negZero, 0, 1, halfF, oneF, 0x401c000000000000, 0x7fefffffffffffff, inf, nan} {
		list = append(list, floatOf(u))
	}
	return list
}

// wrong has values that aren't right, each for one cause.
func wrong() []api.Value {
	list := []api.Value{
		{Kind: 5}, {Kind: -1}, {Kind: math.MaxInt}, {Kind: math.MinInt}, {Kind: 256}, {Kind: 257, N: 3}, {Kind: 5, N: 1, S: "a", F: 1},
		{N: 1}, {S: "a"}, {F: oneF},
		{Kind: api.Int, N: 1, S: "a"}, {Kind: api.Int, N: 1, F: 1}, {Kind: api.Int, F: nan},
		{Kind: api.Bool, N: 2}, {Kind: api.Bool, N: -1}, {Kind: api.Bool, N: 256}, {Kind: api.Bool, N: 1, S: "a"}, {Kind: api.Bool, N: 1, F: 1}, {Kind: api.Bool, N: math.MinInt},
		{Kind: api.Bytes, S: "a", N: 1}, {Kind: api.Bytes, S: "a", F: 1}, {Kind: api.Bytes, N: 1},
		bytesOf(strings.Repeat("z", api.MaxBytes+1)), bytesOf(strings.Repeat("z", 5000)),
		{Kind: api.Float, F: oneF, N: 1}, {Kind: api.Float, F: oneF, S: "a"},
	}
	for _, u := range []uint64{nan + 1, inf + 1, negInf + 1, nan | negZero, math.MaxUint64, 0x7fffffffffffffff} {
		list = append(list, floatOf(u))
	}
	return list
}

// kinds has the kinds that there are and some that there aren't.
func kinds() []api.Kind {
	return []api.Kind{math.MinInt, -1, api.Null, api.Int, api.Bool, api.Bytes, api.Float, 5, 256, 259, math.MaxInt}
}

func sign(n int) int {
	return max(-1, min(1, n))
}

func TestRight(t *testing.T) {
	for _, v := range rising() {
		if !Right(v) {
			t.Errorf("%v is right", v)
		}
	}
	for _, v := range wrong() {
		if Right(v) {
			t.Errorf("%v isn't right", v)
		}
	}
}

// P3.1: Order goes by the whole list.
func TestOrder(t *testing.T) {
	list := rising()
	for i, a := range list {
		for k, b := range list {
			if o := Order(a, b); o != sign(i-k) {
				t.Errorf("Order(%v, %v): %d, not %d", a, b, o, sign(i-k))
			}
		}
	}
}

// P3.1: Compare goes by the same list within a kind, but for Null, NaN and
// the zeros.
func TestCompare(t *testing.T) {
	list := rising()
	for i, a := range list {
		for k, b := range list {
			want, wantOK := sign(i-k), a.Kind == b.Kind && a.Kind != api.Null && a.F != nan && b.F != nan
			if !wantOK || a.Kind == api.Float && a.F&^negZero == 0 && b.F&^negZero == 0 {
				want = 0
			}
			if c, ok := Compare(a, b); c != want || ok != wantOK {
				t.Errorf("Compare(%v, %v): %d %v, not %d %v", a, b, c, ok, want, wantOK)
			}
		}
	}
}

// P3.1: what the chapter and the edges say, written out.
func TestCompareAndOrderWrittenOut(t *testing.T) {
	for _, c := range []struct {
		a, b  api.Value
		c     int
		ok    bool
		order int
	}{
		{floatOf(0), floatOf(negZero), 0, true, 1},
		{floatOf(negZero), floatOf(0), 0, true, -1},
		{floatOf(nan), floatOf(nan), 0, false, 0},
		{floatOf(nan), floatOf(inf), 0, false, 1},
		{floatOf(negInf), floatOf(nan), 0, false, -1},
		{floatOf(negInf), floatOf(inf), -1, true, -1},
		{api.Value{}, api.Value{}, 0, false, 0},
		{api.Value{}, intOf(math.MinInt), 0, false, -1},
		{floatOf(nan), api.Value{}, 0, false, 1},
		{intOf(math.MinInt), intOf(math.MaxInt), -1, true, -1},
		{intOf(math.MaxInt), intOf(math.MinInt), 1, true, 1},
		{intOf(7), intOf(7), 0, true, 0},
		{intOf(1), boolOf(0), 0, false, -1},
		{intOf(1), floatOf(oneF), 0, false, -1},
		{boolOf(0), boolOf(1), -1, true, -1},
		{boolOf(1), boolOf(1), 0, true, 0},
		{bytesOf(""), boolOf(1), 0, false, 1},
		{bytesOf(""), bytesOf(""), 0, true, 0},
		{bytesOf("a"), bytesOf("ab"), -1, true, -1},
		{bytesOf("b"), bytesOf("ab"), 1, true, 1},
		{bytesOf("\x7f"), bytesOf("\x80"), -1, true, -1},
	} {
		if n, ok := Compare(c.a, c.b); n != c.c || ok != c.ok {
			t.Errorf("Compare(%v, %v): %d %v", c.a, c.b, n, ok)
		}
		if o := Order(c.a, c.b); o != c.order {
			t.Errorf("Order(%v, %v): %d", c.a, c.b, o)
		}
	}
}

// P3.1: a value that isn't right counts as Null, on either side.
func TestWrongValuesStandAsNull(t *testing.T) {
	all := append(rising(), wrong()...)
	for _, w := range wrong() {
		for _, v := range all {
			if c, ok := Compare(w, v); c != 0 || ok {
				t.Errorf("Compare(%v, %v): %d %v", w, v, c, ok)
			}
			if c, ok := Compare(v, w); c != 0 || ok {
				t.Errorf("Compare(%v, %v): %d %v", v, w, c, ok)
			}
			want := 1
			if v.Kind == api.Null || !Right(v) {
				want = 0
			}
			if o := Order(v, w); o != want {
				t.Errorf("Order(%v, %v): %d", v, w, o)
			}
			if o := Order(w, v); o != -want {
				t.Errorf("Order(%v, %v): %d", w, v, o)
			}
		}
	}
}

// P3.2: texts that the chapter and the edges name, and their values.
func TestTexts(t *testing.T) {
	full := strings.Repeat("\xab", api.MaxBytes)
	for _, c := range []struct {
		v api.Value
		s string
	}{
		{api.Value{}, "null"},
		{intOf(0), "0"},
		{intOf(5), "5"},
		{intOf(-1), "-1"},
		{intOf(-120), "-120"},
		{intOf(math.MaxInt), "9223372036854775807"},
		{intOf(math.MinInt), "-9223372036854775808"},
		{boolOf(0), "false"},
		{boolOf(1), "true"},
		{bytesOf(""), "x"},
		{bytesOf("ab"), "x6162"},
		{bytesOf("\x00"), "x00"},
		{bytesOf("\x0f\xf0\x9a\xbc\xde"), "x0ff09abcde"},
		{bytesOf(full), "x" + strings.Repeat("ab", api.MaxBytes)},
		{floatOf(0), "0."},
		{floatOf(negZero), "-0."},
		{floatOf(nan), "nan"},
		{floatOf(inf), "inf"},
		{floatOf(negInf), "-inf"},
		{floatOf(0x401c000000000000), "7."},
		{floatOf(halfF), "0x3fe0000000000000"},
	} {
		if s := Print(c.v); s != c.s {
			t.Errorf("Print(%v): %q, not %q", c.v, s, c.s)
		}
		if v, ok := Parse(c.s); v != c.v || !ok {
			t.Errorf("Parse(%q): %v %v", c.s, v, ok)
		}
	}
}

// P3.2: what is printed is parsed again, of many values.
func TestTextsOfMany(t *testing.T) {
	for _, v := range append(rising(), many(4)...) {
		s := Print(v)
		if g, ok := Parse(s); g != v || !ok {
			t.Errorf("%v as %q: %v %v", v, s, g, ok)
		}
		if w := plainText(v); s != w {
			t.Errorf("Print(%v): %q, not %q", v, s, w)
		}
	}
}

// plainText is Print by other means.
func plainText(v api.Value) string {
	switch v.Kind {
	case api.Int:
		return strconv.FormatInt(int64(v.N), 10)
	case api.Bool:
		return strconv.FormatBool(v.N == 1)
	case api.Bytes:
		return "x" + hex.EncodeToString([]byte(v.S))
	case api.Float:
		return float.Print(v.F)
	}
	return "null"
}

// many has right values of all kinds, always the same ones of a seed.
func many(seed int64) []api.Value {
	r := rand.New(rand.NewSource(seed))
	var list []api.Value
	for range 2000 {
		b := make([]byte, r.Intn(api.MaxBytes+1))
		r.Read(b)
		list = append(list, api.Value{}, boolOf(r.Intn(2)), bytesOf(string(b)),
			intOf(int(r.Uint64())>>r.Intn(64)), floatOf(float.Canon(r.Uint64())), floatOf(math.Float64bits(float64(r.Intn(2000)-1000)/4)))
	}
	return list
}

// P3.2: texts that Print never writes.
func TestNoTexts(t *testing.T) {
	for _, s := range []string{
		"", " ", "-", "+", ".", "NULL", "Null", "nul", "nulls", " null", "null ", "nil",
		"True", "FALSE", "t", "f", "yes", "truefalse", "true ", "\ttrue",
		"00", "01", "007", "-0", "+0", "-01", "+1", "1_000", " 1", "1 ", "1e3", "--1", "0b1", "0o7", "0x1", "٣",
		"9223372036854775808", "-9223372036854775809", "99999999999999999999999999", "18446744073709551615",
		"x1", "x123", "xFF", "xaB", "xg0", "x0g", "x 1", "x0x", "X61", "X", "x61 ", " x61", "xx", "x6 1", "x-1", "x+1", "x\x00\x00", "x\xff\xff",
		"\"a\"",
		"x" + strings.Repeat("00", api.MaxBytes+1), "x" + strings.Repeat("0", 2*api.MaxBytes+1), "x" + strings.Repeat("00", 100000),
		"7.0", "+7.", "07.", "7.\n", "NaN", "Inf", "+inf", "-nan", "infinity", "0x7ff8000000000000", "0x7ff8000000000001", "0x3FE0000000000000", "0x3fe000000000000", "0x03fe0000000000000", "0x4008000000000000", ".5", "1.5",
		strings.Repeat("9", 100000),
	} {
		if v, ok := Parse(s); ok || v != (api.Value{}) {
			t.Errorf("Parse(%.50q): %v %v", s, v, ok)
		}
	}
}

// P3.2: a value that isn't right is printed as Null.
func TestWrongValuesAsTexts(t *testing.T) {
	for _, v := range wrong() {
		if s := Print(v); s != "null" {
			t.Errorf("Print(%v): %q", v, s)
		}
	}
}

// P3.2: each text of one byte and of two, and each byte among digits.
func TestShortTexts(t *testing.T) {
	for i := range 256 {
		sameText(t, string([]byte{byte(i)}))
		sameText(t, string([]byte{'x', '0', byte(i)}))
		sameText(t, string([]byte{'x', byte(i), '0'}))
		for k := range 256 {
			sameText(t, string([]byte{byte(i), byte(k)}))
		}
	}
}

// sameText says that s is Print's own text, or none at all.
func sameText(t *testing.T, s string) {
	t.Helper()
	v, ok := Parse(s)
	if ok && (!Right(v) || Print(v) != s) {
		t.Errorf("Parse(%q): %v, which is printed %q", s, v, Print(v))
	}
	if !ok && v != (api.Value{}) {
		t.Errorf("Parse(%q): %v beside false", s, v)
	}
}

func FuzzParse(f *testing.F) {
	for _, v := range rising() {
		f.Add(Print(v))
	}
	for _, s := range []string{"-0", "+1", "x1", "xFF", "0x", "00", "1."} {
		f.Add(s)
	}
	f.Fuzz(sameText)
}

// P3.3: the bytes that the chapter tells.
func TestForm(t *testing.T) {
	full := strings.Repeat("q", api.MaxBytes)
	for _, c := range []struct {
		v    api.Value
		want string
	}{
		{api.Value{}, "\x00"},
		{intOf(0), "\x01\x00"},
		{intOf(-3), "\x01\x05"},
		{intOf(64), "\x01\x80\x01"},
		{intOf(math.MaxInt), "\x01\xfe\xff\xff\xff\xff\xff\xff\xff\xff\x01"},
		{intOf(math.MinInt), "\x01\xff\xff\xff\xff\xff\xff\xff\xff\xff\x01"},
		{boolOf(0), "\x02\x00"},
		{boolOf(1), "\x02\x01"},
		{bytesOf(""), "\x03\x00"},
		{bytesOf("ab"), "\x03\x02ab"},
		{bytesOf(full), "\x03\x40" + full},
		{floatOf(0), "\x04\x00\x00\x00\x00\x00\x00\x00\x00"},
		{floatOf(negZero), "\x04\x00\x00\x00\x00\x00\x00\x00\x80"},
		{floatOf(nan), "\x04\x00\x00\x00\x00\x00\x00\xf8\x7f"},
		{floatOf(0x0102030405060708), "\x04\x08\x07\x06\x05\x04\x03\x02\x01"},
	} {
		if b := Put(nil, c.v); string(b) != c.want {
			t.Errorf("Put(nil, %v): %x, not %x", c.v, b, c.want)
		}
		if v, ok := Get(pack.Open([]byte(c.want))); v != c.v || !ok {
			t.Errorf("Get of %x: %v %v", c.want, v, ok)
		}
	}
	for _, v := range wrong() {
		if b := Put([]byte("z"), v); string(b) != "z\x00" {
			t.Errorf("Put(z, %v): %x", v, b)
		}
	}
}

// P3.3: b's bytes stand ahead, whether b is nil, empty or has bytes.
func TestPutsBehind(t *testing.T) {
	for _, v := range append(rising(), wrong()...) {
		alone := Put(nil, v)
		for _, b := range [][]byte{nil, {}, {7}, []byte("\x80\x80"), bytes.Repeat([]byte{9}, 1000)} {
			want := append(bytes.Clone(b), alone...)
			if got := Put(b, v); !bytes.Equal(got, want) {
				t.Errorf("%v behind %d bytes: %x", v, len(b), got)
			}
		}
	}
}

// P3.3 and rule 5: what is handed in stays as it was, its spare room
// included, and an answer shares no memory, its spare room included.
func TestPutAnswersNewMemory(t *testing.T) {
	untouched := bytes.Repeat([]byte{0xee}, 300)
	for _, v := range append(rising(), wrong()...) {
		for _, size := range []int{0, 1, 5, 300} {
			whole := bytes.Clone(untouched)
			one, two := Put(whole[:size], v), Put(whole[:size], v)
			want := bytes.Clone(two)
			scribble(one)
			if !bytes.Equal(whole, untouched) || !bytes.Equal(two, want) {
				t.Errorf("%v behind %d bytes shares its answer", v, size)
			}
			scribble(whole)
			if !bytes.Equal(two, want) {
				t.Errorf("%v behind %d bytes shares what was handed in", v, size)
			}
		}
	}
}

// P3.3: an answer that is written on twice gives two answers that don't meet.
func TestPutOnTwice(t *testing.T) {
	for _, v := range rising() {
		b := Put(nil, v)
		was := bytes.Clone(b)
		one, two := Put(b, boolOf(0)), Put(b, boolOf(1))
		if !bytes.Equal(one, append(bytes.Clone(was), 2, 0)) || !bytes.Equal(two, append(bytes.Clone(was), 2, 1)) || !bytes.Equal(b, was) {
			t.Errorf("%v: %x and %x behind %x", v, one, two, b)
		}
	}
}

// scribble writes over all that b reaches.
func scribble(b []byte) {
	b = b[:cap(b)]
	for i := range b {
		b[i] = 0x11
	}
}

// P3.3: rows of values are got as they were put, and nothing is left.
func TestGetsWhatIsPut(t *testing.T) {
	list := append(rising(), many(5)...)
	for len(list) > 0 {
		part := list[:min(50, len(list))]
		list = list[len(part):]
		var b []byte
		for _, v := range part {
			b = Put(b, v)
		}
		r := pack.Open(b)
		for _, v := range part {
			if g, ok := Get(r); g != v || !ok {
				t.Fatalf("%v: %v %v", v, g, ok)
			}
		}
		if !r.Done() {
			t.Fatal("something is left")
		}
		if v, ok := Get(r); ok || v != (api.Value{}) {
			t.Fatalf("behind all: %v %v", v, ok)
		}
	}
}

// P3.3: Get leaves what stands behind its value.
func TestGetReadsNoMore(t *testing.T) {
	for _, v := range rising() {
		r := pack.Open(pack.Text(Put(nil, v), "rest"))
		if g, ok := Get(r); g != v || !ok {
			t.Errorf("%v: %v %v", v, g, ok)
		}
		if s, ok := r.Text(); s != "rest" || !ok || !r.Done() {
			t.Errorf("behind %v: %q %v", v, s, ok)
		}
	}
}

// P3.3: bytes that Put never writes.
func TestNoForms(t *testing.T) {
	long := strings.Repeat("q", api.MaxBytes+1)
	for _, s := range []string{
		"", "\x05", "\x05\x00", "\xff", "\x80\x00", "\x81\x00\x02",
		"\x01", "\x01\x80", "\x01\x80\x00", "\x01\x85\x80\x00", "\x01\x80\x80\x80\x80\x80\x80\x80\x80\x80\x02", "\x01\xff\xff\xff\xff\xff\xff\xff\xff\xff\xff\x01",
		"\x02", "\x02\x02", "\x02\x03", "\x02\x80\x00", "\x02\xff",
		"\x03", "\x03\x01", "\x03\x41", "\x03\x02a", "\x03\x80\x00", "\x03\x41" + long, "\x03\x40" + long[:api.MaxBytes-1], "\x03\xff\xff\xff\xff\xff\xff\xff\xff\xff\x01",
		"\x04", "\x04\x00\x00\x00\x00\x00\x00\x00",
		"\x04\x01\x00\x00\x00\x00\x00\xf8\x7f", "\x04\x00\x00\x00\x00\x00\x00\xf8\xff", "\x04\x01\x00\x00\x00\x00\x00\xf0\x7f", "\x04\xff\xff\xff\xff\xff\xff\xff\xff",
	} {
		if v, ok := Get(pack.Open([]byte(s))); ok || v != (api.Value{}) {
			t.Errorf("Get of %x: %v %v", s, v, ok)
		}
	}
	for _, v := range rising() {
		b := Put(nil, v)
		for size := range len(b) {
			if g, ok := Get(pack.Open(b[:size])); ok || g != (api.Value{}) {
				t.Errorf("Get of %d of the bytes of %v: %v %v", size, v, g, ok)
			}
		}
	}
}

// P3.3: a reader that is nil, or bad, has no value, whatever is left in it.
func TestNoReader(t *testing.T) {
	if v, ok := Get(nil); ok || v != (api.Value{}) {
		t.Errorf("Get of nil: %v %v", v, ok)
	}
	r := pack.Open([]byte("\x05\x00\x01\x02"))
	r.Text()
	if v, ok := Get(r); ok || v != (api.Value{}) {
		t.Errorf("Get of a bad reader: %v %v", v, ok)
	}
}

// sameForm says that what is got of b is put in the same bytes.
func sameForm(t *testing.T, b []byte) {
	t.Helper()
	v, ok := Get(pack.Open(b))
	if ok && (!Right(v) || !bytes.HasPrefix(b, Put(nil, v))) {
		t.Errorf("Get of %x: %v", b, v)
	}
	if !ok && v != (api.Value{}) {
		t.Errorf("Get of %x: %v beside false", b, v)
	}
}

func TestFormsOfAnyBytes(t *testing.T) {
	r := rand.New(rand.NewSource(6))
	for range 50000 {
		b := make([]byte, r.Intn(12))
		r.Read(b)
		if len(b) > 0 {
			b[0] %= 6
		}
		sameForm(t, b)
	}
}

func FuzzGet(f *testing.F) {
	for _, v := range rising() {
		f.Add(Put(nil, v))
	}
	f.Fuzz(sameForm)
}

// masks has masks of all kinds, right and wrong.
func masks() []api.Mask {
	var list []api.Mask
	for _, k := range []api.MaskKind{math.MinInt, -1, api.Keep, api.Hide, api.Zero, api.Head, 4, 256, math.MaxInt} {
		for _, n := range []int{math.MinInt, -1, 0, 1, 2, 5, 6, 7, 63, 64, 65, math.MaxInt} {
			list = append(list, api.Mask{Kind: k, N: n})
		}
	}
	return list
}

// P3.4: all masks for all kinds, against the chapter's words.
func TestRightMask(t *testing.T) {
	for _, m := range masks() {
		for _, k := range kinds() {
			column := k == api.Int || k == api.Bool || k == api.Bytes || k == api.Float
			plain := (m.Kind == api.Keep || m.Kind == api.Hide || m.Kind == api.Zero) && m.N == 0
			head := m.Kind == api.Head && k == api.Bytes && m.N >= 0 && m.N <= 64
			if want := column && (plain || head); RightMask(m, k) != want {
				t.Errorf("RightMask(%v, %d): %v", m, k, !want)
			}
		}
	}
	for n := range 65 {
		if !RightMask(api.Mask{Kind: api.Head, N: n}, api.Bytes) {
			t.Errorf("Head %d isn't right", n)
		}
	}
}

// P3.4: what masks leave, written out.
func TestMask(t *testing.T) {
	null, full := api.Value{}, strings.Repeat("q", api.MaxBytes)
	for _, c := range []struct {
		v    api.Value
		m    api.Mask
		want api.Value
	}{
		{intOf(5), api.Mask{Kind: api.Keep}, intOf(5)},
		{intOf(5), api.Mask{Kind: api.Keep, N: -7}, intOf(5)},
		{floatOf(negZero), api.Mask{Kind: api.Keep}, floatOf(negZero)},
		{bytesOf("secret"), api.Mask{Kind: api.Keep, N: 2}, bytesOf("secret")},
		{intOf(5), api.Mask{Kind: api.Hide}, null},
		{bytesOf("secret"), api.Mask{Kind: api.Hide, N: 3}, null},
		{intOf(5), api.Mask{Kind: api.Zero}, intOf(0)},
		{intOf(5), api.Mask{Kind: api.Zero, N: 9}, intOf(0)},
		{boolOf(1), api.Mask{Kind: api.Zero}, boolOf(0)},
		{bytesOf("secret"), api.Mask{Kind: api.Zero, N: 3}, bytesOf("")},
		{floatOf(negZero), api.Mask{Kind: api.Zero}, floatOf(0)},
		{floatOf(nan), api.Mask{Kind: api.Zero}, floatOf(0)},
		{bytesOf("secret"), api.Mask{Kind: api.Head, N: 2}, bytesOf("se")},
		{bytesOf("secret"), api.Mask{Kind: api.Head, N: 0}, bytesOf("")},
		{bytesOf("secret"), api.Mask{Kind: api.Head, N: -1}, bytesOf("")},
		{bytesOf("secret"), api.Mask{Kind: api.Head, N: math.MinInt}, bytesOf("")},
		{bytesOf("secret"), api.Mask{Kind: api.Head, N: 5}, bytesOf("secre")},
		{bytesOf("secret"), api.Mask{Kind: api.Head, N: 6}, bytesOf("secret")},
		{bytesOf("secret"), api.Mask{Kind: api.Head, N: 7}, bytesOf("secret")},
		{bytesOf("secret"), api.Mask{Kind: api.Head, N: math.MaxInt}, bytesOf("secret")},
		{bytesOf(full), api.Mask{Kind: api.Head, N: 63}, bytesOf(full[:63])},
		{bytesOf(full), api.Mask{Kind: api.Head, N: 65}, bytesOf(full)},
		{bytesOf("ä"), api.Mask{Kind: api.Head, N: 1}, bytesOf("\xc3")},
		{intOf(5), api.Mask{Kind: api.Head, N: 2}, null},
		{boolOf(0), api.Mask{Kind: api.Head}, null},
		{floatOf(0), api.Mask{Kind: api.Head, N: 64}, null},
		{intOf(5), api.Mask{Kind: 4}, null},
		{intOf(5), api.Mask{Kind: -1}, null},
		{bytesOf("secret"), api.Mask{Kind: 259, N: 2}, null},
	} {
		if g := Mask(c.v, c.m); g != c.want {
			t.Errorf("Mask(%v, %v): %v, not %v", c.v, c.m, g, c.want)
		}
	}
}

// P3.4: all values under all masks: what is left is right, of the same kind
// or Null, and nothing that isn't right or isn't there comes through.
func TestMaskOfAll(t *testing.T) {
	for _, m := range masks() {
		for _, v := range append(rising(), wrong()...) {
			g := Mask(v, m)
			if !Right(g) || g.Kind != api.Null && g.Kind != v.Kind {
				t.Errorf("Mask(%v, %v): %v", v, m, g)
			}
			if (!Right(v) || v.Kind == api.Null) && g != (api.Value{}) {
				t.Errorf("Mask(%v, %v): %v, not Null", v, m, g)
			}
			if m.Kind == api.Keep && Right(v) && g != v {
				t.Errorf("Mask(%v, %v): %v", v, m, g)
			}
			if (m.Kind < api.Keep || m.Kind == api.Hide || m.Kind > api.Head) && g != (api.Value{}) {
				t.Errorf("Mask(%v, %v): %v, not Null", v, m, g)
			}
		}
	}
}

// The three truths: all nine pairs.
func TestTruths(t *testing.T) {
	const no, yes, unknown = api.No, api.Yes, api.Unknown
	for _, c := range []struct{ a, b, and, or api.Truth }{
		{no, no, no, no}, {no, yes, no, yes}, {no, unknown, no, unknown},
		{yes, no, no, yes}, {yes, yes, yes, yes}, {yes, unknown, unknown, yes},
		{unknown, no, no, unknown}, {unknown, yes, unknown, yes}, {unknown, unknown, unknown, unknown},
	} {
		if g := And(c.a, c.b); g != c.and {
			t.Errorf("And(%d, %d): %d", c.a, c.b, g)
		}
		if g := Or(c.a, c.b); g != c.or {
			t.Errorf("Or(%d, %d): %d", c.a, c.b, g)
		}
	}
	if Not(no) != yes || Not(yes) != no || Not(unknown) != unknown {
		t.Errorf("Not: %d %d %d", Not(no), Not(yes), Not(unknown))
	}
}

// Truths that aren't right count as Unknown.
func TestWrongTruths(t *testing.T) {
	bad := []api.Truth{math.MinInt, -1, 3, 4, 256, 257, math.MaxInt}
	for _, w := range bad {
		if Not(w) != api.Unknown {
			t.Errorf("Not(%d): %d", w, Not(w))
		}
		for _, a := range append(bad, api.No, api.Yes, api.Unknown) {
			and, or := And(a, api.Unknown), Or(a, api.Unknown)
			if And(a, w) != and || And(w, a) != and || Or(a, w) != or || Or(w, a) != or {
				t.Errorf("%d beside %d: %d %d %d %d", w, a, And(a, w), And(w, a), Or(a, w), Or(w, a))
			}
		}
	}
	if And(3, -1) != api.Unknown || Or(3, -1) != api.Unknown {
		t.Errorf("3 beside -1: %d %d", And(3, -1), Or(3, -1))
	}
}
