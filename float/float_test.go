package float

import (
	"fmt"
	"math"
	"math/big"
	"math/rand"
	"strings"
	"testing"
)

const (
	nan      = uint64(0x7ff8000000000000)
	inf      = uint64(0x7ff0000000000000)
	negInf   = uint64(0xfff0000000000000)
	negZero  = uint64(1) << 63
	one      = uint64(0x3ff0000000000000)
	half     = uint64(0x3fe0000000000000)
	greatest = uint64(0x7fefffffffffffff)
	edge     = uint64(0x4340000000000000) // 2^53
	sign     = uint64(1) << 63
)

// otherNaNs are no numbers, and not canonical.
func otherNaNs() []uint64 {
	return []uint64{
		0x7ff0000000000001, 0x7ff8000000000001, 0x7fffffffffffffff, 0x7ff4000000000000, 0x7ff7ffffffffffff,
		0xfff0000000000001, 0xfff8000000000000, 0xfff8000000000001, 0xffffffffffffffff,
	}
}

// rising has floats in the order that P2.1 tells, each once.
func rising() []uint64 {
	up := []uint64{
		0, 1, 2, 0x000fffffffffffff, 0x0010000000000000, 0x3fdfffffffffffff, half, 0x3fefffffffffffff, one,
		0x3ff0000000000001, 0x3ff8000000000000, 0x4000000000000000, 0x4008000000000000,
		0x433ffffffffffffe, 0x433fffffffffffff, edge, edge + 1, edge + 2,
		0x43e0000000000000, 0x7fe0000000000000, greatest, inf,
	}
	var list []uint64
	for i := len(up) - 1; i >= 0; i-- {
		list = append(list, up[i]|sign)
	}
	return append(append(list, up...), nan)
}

// sign3 is -1, 0 or 1.
func sign3(n int) int {
	return max(-1, min(1, n))
}

// plainNaN tells NaN by the bits alone.
func plainNaN(u uint64) bool {
	return u&^sign > inf
}

// samples has the edges and many others, of every exponent.
func samples() []uint64 {
	list := append(rising(), otherNaNs()...)
	r := rand.New(rand.NewSource(2))
	for e := range uint64(2048) {
		list = append(list, e<<52, sign|e<<52, e<<52|r.Uint64()>>12, sign|e<<52|r.Uint64()>>12, e<<52|1, e<<52|1<<52-1)
	}
	for range 20000 {
		list = append(list, r.Uint64(), math.Float64bits(float64(r.Intn(1<<55)-1<<54)), math.Float64bits(float64(r.Intn(2000)-1000)/4))
	}
	return list
}

// P2.1: one form for all NaNs, and no other float is changed.
func TestCanon(t *testing.T) {
	for _, u := range append(otherNaNs(), nan) {
		if g := Canon(u); g != nan {
			t.Errorf("Canon(%x): %x", u, g)
		}
	}
	for _, u := range samples() {
		want := u
		if plainNaN(u) {
			want = nan
		}
		if g := Canon(u); g != want {
			t.Errorf("Canon(%x): %x, not %x", u, g, want)
		}
		if g := Canon(Canon(u)); g != want {
			t.Errorf("Canon twice of %x: %x", u, g)
		}
	}
}

// P2.1: Compare goes by numbers, so the zeros are alike, and NaN stands nowhere.
func TestCompare(t *testing.T) {
	list := rising()
	numbers := list[:len(list)-1]
	for i, a := range numbers {
		for k, b := range numbers {
			want := sign3(i - k)
			if a&^sign == 0 && b&^sign == 0 {
				want = 0
			}
			if c, ok := Compare(a, b); c != want || !ok {
				t.Errorf("Compare(%x, %x): %d %v, not %d", a, b, c, ok, want)
			}
		}
	}
	for _, a := range append(otherNaNs(), nan) {
		for _, b := range append(rising(), otherNaNs()...) {
			if c, ok := Compare(a, b); c != 0 || ok {
				t.Errorf("Compare(%x, %x): %d %v", a, b, c, ok)
			}
			if c, ok := Compare(b, a); c != 0 || ok {
				t.Errorf("Compare(%x, %x): %d %v", b, a, c, ok)
			}
		}
	}
}

// exact is the number that u is, with infinities, worked out from the bits.
func exact(u uint64) *big.Float {
	if u&^sign == inf {
		return new(big.Float).SetInf(u&sign != 0)
	}
	e, m := int(u>>52&0x7ff), u&(1<<52-1)
	if e == 0 {
		e = 1
	} else {
		m |= 1 << 52
	}
	f := new(big.Float).SetUint64(m)
	f.SetMantExp(f, e-1075)
	if u&sign != 0 {
		f.Neg(f)
	}
	return f
}

func TestCompareOfMany(t *testing.T) {
	list := samples()
	r := rand.New(rand.NewSource(3))
	for _, a := range list {
		for _, b := range []uint64{list[r.Intn(len(list))], a ^ 1, a ^ sign, a} {
			want, wantOK := 0, !plainNaN(a) && !plainNaN(b)
			if wantOK {
				want = exact(a).Cmp(exact(b))
			}
			if c, ok := Compare(a, b); c != want || ok != wantOK {
				t.Fatalf("Compare(%x, %x): %d %v, not %d %v", a, b, c, ok, want, wantOK)
			}
		}
	}
}

// P2.1: the order has all canonical floats, -0 ahead of 0 and NaN at the end.
func TestOrder(t *testing.T) {
	list := rising()
	for i, a := range list {
		for k, b := range list {
			if g, want := Order(a, b), sign3(i-k); g != want {
				t.Errorf("Order(%x, %x): %d, not %d", a, b, g, want)
			}
		}
	}
	for _, a := range otherNaNs() {
		for _, b := range append(rising(), otherNaNs()...) {
			if g, want := Order(a, b), Order(nan, Canon(b)); g != want {
				t.Errorf("Order(%x, %x): %d, not %d", a, b, g, want)
			}
			if g, want := Order(b, a), Order(Canon(b), nan); g != want {
				t.Errorf("Order(%x, %x): %d, not %d", b, a, g, want)
			}
		}
	}
}

// place is u's place in the order, by the bits alone.
func place(u uint64) uint64 {
	if plainNaN(u) {
		u = nan
	}
	if u&sign != 0 {
		return ^u
	}
	return u | sign
}

func TestOrderOfMany(t *testing.T) {
	list := samples()
	r := rand.New(rand.NewSource(4))
	for _, a := range list {
		for _, b := range []uint64{list[r.Intn(len(list))], a ^ 1, a ^ sign, a} {
			want := 0
			if place(a) < place(b) {
				want = -1
			} else if place(a) > place(b) {
				want = 1
			}
			if g := Order(a, b); g != want {
				t.Fatalf("Order(%x, %x): %d, not %d", a, b, g, want)
			}
		}
	}
}

// P2.2: the floats of numbers, to 2^53 and no farther.
func TestFromInt(t *testing.T) {
	for _, c := range []struct {
		n    int
		want uint64
		ok   bool
	}{
		{0, 0, true},
		{1, one, true},
		{-1, sign | one, true},
		{2, 0x4000000000000000, true},
		{3, 0x4008000000000000, true},
		{1<<53 - 1, 0x433fffffffffffff, true},
		{1 << 53, edge, true},
		{1<<53 + 1, 0, false},
		{1<<53 + 2, 0, false}, // a float is it, but it lies beyond
		{-1<<53 + 1, sign | 0x433fffffffffffff, true},
		{-1 << 53, sign | edge, true},
		{-1<<53 - 1, 0, false},
		{-1<<53 - 2, 0, false},
		{1 << 54, 0, false},
		{-1 << 54, 0, false},
		{math.MaxInt, 0, false},
		{math.MinInt, 0, false},
	} {
		if u, ok := FromInt(c.n); u != c.want || ok != c.ok {
			t.Errorf("FromInt(%d): %x %v, not %x %v", c.n, u, ok, c.want, c.ok)
		}
	}
}

// P2.2: the numbers of floats: only whole ones, to 2^53 and no farther.
func TestToInt(t *testing.T) {
	for _, c := range []struct {
		u    uint64
		want int
		ok   bool
	}{
		{0, 0, true},
		{negZero, 0, true},
		{one, 1, true},
		{sign | one, -1, true},
		{0x4008000000000000, 3, true},
		{0x433fffffffffffff, 1<<53 - 1, true},
		{edge, 1 << 53, true},
		{sign | edge, -1 << 53, true},
		{edge + 1, 0, false},
		{sign | edge + 1, 0, false},
		{0x433ffffffffffffe, 1<<53 - 2, true},
		{0x432fffffffffffff, 0, false}, // 2^52 - 1/2
		{half, 0, false},
		{sign | half, 0, false},
		{0x3ff0000000000001, 0, false},
		{0x3fefffffffffffff, 0, false},
		{1, 0, false},
		{sign | 1, 0, false},
		{0x43e0000000000000, 0, false}, // 2^63
		{sign | 0x43e0000000000000, 0, false},
		{greatest, 0, false},
		{sign | greatest, 0, false},
		{inf, 0, false},
		{negInf, 0, false},
		{nan, 0, false},
	} {
		if n, ok := ToInt(c.u); n != c.want || ok != c.ok {
			t.Errorf("ToInt(%x): %d %v, not %d %v", c.u, n, ok, c.want, c.ok)
		}
	}
	for _, u := range otherNaNs() {
		if n, ok := ToInt(u); n != 0 || ok {
			t.Errorf("ToInt(%x): %d %v", u, n, ok)
		}
	}
}

// whole is what ToInt must answer, from the exact number.
func whole(u uint64) (int, bool) {
	if plainNaN(u) || u&^sign == inf {
		return 0, false
	}
	f := exact(u)
	n, how := f.Int64()
	if how != big.Exact || n < -1<<53 || n > 1<<53 {
		return 0, false
	}
	return int(n), true
}

func TestNumbersOfMany(t *testing.T) {
	for _, u := range samples() {
		n, ok := ToInt(u)
		if want, wantOK := whole(u); n != want || ok != wantOK {
			t.Fatalf("ToInt(%x): %d %v, not %d %v", u, n, ok, want, wantOK)
		}
		if !ok || u == negZero {
			continue
		}
		if back, ok := FromInt(n); back != u || !ok {
			t.Fatalf("FromInt(ToInt(%x)): %x %v", u, back, ok)
		}
	}
}

// texts has floats and what P2.3 says is written for them.
func texts() map[uint64]string {
	return map[uint64]string{
		nan:                       "nan",
		inf:                       "inf",
		negInf:                    "-inf",
		0:                         "0.",
		negZero:                   "-0.",
		one:                       "1.",
		sign | one:                "-1.",
		0x4008000000000000:        "3.",
		0x4059000000000000:        "100.",
		0xc024000000000000:        "-10.",
		0x433fffffffffffff:        "9007199254740991.",
		edge:                      "9007199254740992.",
		sign | edge:               "-9007199254740992.",
		edge + 1:                  "0x4340000000000001",
		sign | edge + 1:           "0xc340000000000001",
		half:                      "0x3fe0000000000000",
		sign | half:               "0xbfe0000000000000",
		1:                         "0x0000000000000001",
		sign | 1:                  "0x8000000000000001",
		0x000fffffffffffff:        "0x000fffffffffffff",
		0x0010000000000000:        "0x0010000000000000",
		0x3fb999999999999a:        "0x3fb999999999999a",
		greatest:                  "0x7fefffffffffffff",
		sign | greatest:           "0xffefffffffffffff",
		sign | 0x43e0000000000000: "0xc3e0000000000000",
	}
}

// P2.3: what Print writes, and that Parse takes it back.
func TestPrint(t *testing.T) {
	for u, want := range texts() {
		if s := Print(u); s != want {
			t.Errorf("Print(%x): %q, not %q", u, s, want)
		}
	}
	for _, u := range otherNaNs() {
		if s := Print(u); s != "nan" {
			t.Errorf("Print(%x): %q", u, s)
		}
	}
}

func TestParse(t *testing.T) {
	for u, s := range texts() {
		if g, ok := Parse(s); g != u || !ok {
			t.Errorf("Parse(%q): %x %v, not %x", s, g, ok, u)
		}
	}
}

func TestTextsOfMany(t *testing.T) {
	for _, u := range samples() {
		want := fmt.Sprintf("0x%016x", u)
		if n, ok := whole(u); ok && u != negZero {
			want = fmt.Sprintf("%d.", n)
		} else if special := texts()[Canon(u)]; special != "" {
			want = special
		}
		s := Print(u)
		if s != want {
			t.Fatalf("Print(%x): %q, not %q", u, s, want)
		}
		if g, ok := Parse(s); g != Canon(u) || !ok {
			t.Fatalf("Parse(%q): %x %v, not %x", s, g, ok, Canon(u))
		}
	}
}

// strangers are texts that Print never writes.
func strangers() []string {
	list := []string{
		"", " ", ".", "-", "-.", "+", "x", "0", "-0", "1", "-1", "12", "1.0", "0.5", "1e3", "1e3.", "1..", "1.1.", ".1",
		"00.", "-00.", "01.", "-01.", "007.", "+0.", "+1.", "--1.", "- 1.", " 1.", "1. ", "1 .", "1_0.", "1,0.", "1.\x00", "1.\n",
		"9007199254740993.", "9007199254740994.", "-9007199254740993.", "-9007199254740994.",
		"9223372036854775807.", "9223372036854775808.", "-9223372036854775808.", "18446744073709551616.",
		"Nan", "NaN", "NAN", "-nan", "+nan", "nan.", " nan", "nan ", "na", "Inf", "INF", "+inf", "--inf", "inf.", "-inf.", "infinity", "- inf",
		"0x", "0x1", "0x.", "0x1.", "-0x0000000000000001", "+0x0000000000000001", "0x-000000000000001", "0x+000000000000001",
		"0x000000000000001", "0x00000000000000001", "0x0000000000000001.", "0X0000000000000001", "0x000000000000000g", "0x0_00000000000001",
		"x0000000000000001", "0000000000000001", "0x0000000000000000", "0x8000000000000000", "0x3ff0000000000000",
		"0xbff0000000000000", "0x4340000000000000", "0xc340000000000000", "0x7ff0000000000000", "0xfff0000000000000",
		"0x3FE0000000000000", "0x3fE0000000000000", "0x7FEFFFFFFFFFFFFF", "0x7fefffffffffffff ", " 0x7fefffffffffffff",
		"0x10000000000000001", "0xffffffffffffffffff", "\xff", "\xff\xfe.", "٣.", "0x00000000000000०1",
		strings.Repeat("0", 100000) + ".", strings.Repeat("9", 100000) + ".", "0x" + strings.Repeat("0", 100000) + "1",
	}
	for _, u := range append(otherNaNs(), nan) {
		list = append(list, fmt.Sprintf("0x%016x", u))
	}
	return list
}

func TestParseOfStrangers(t *testing.T) {
	for _, s := range strangers() {
		if u, ok := Parse(s); u != 0 || ok {
			t.Errorf("Parse(%.40q): %x %v", s, u, ok)
		}
	}
}

// P2.3: a text that Print wrote, with one byte more, less or other, is the text
// of the float that Print writes so, or of none.
func TestParseOfNeighbours(t *testing.T) {
	try := func(s string) {
		u, ok := Parse(s)
		if ok && (Print(u) != s || Canon(u) != u) || !ok && u != 0 {
			t.Errorf("Parse(%q): %x %v", s, u, ok)
		}
	}
	for _, s := range texts() {
		for i := range len(s) + 1 {
			for _, c := range []byte("0123456789abcdefABFx.-+_ ni\x00\xff") {
				try(s[:i] + string(rune(c)) + s[i:])
				if i < len(s) {
					try(s[:i] + string([]byte{c}) + s[i+1:])
				}
			}
			if i < len(s) {
				try(s[:i] + s[i+1:])
			}
		}
	}
}

// FuzzParse: what Parse takes, Print writes, and no other.
func FuzzParse(f *testing.F) {
	for _, s := range texts() {
		f.Add(s)
	}
	for _, s := range strangers() {
		if len(s) < 100 {
			f.Add(s)
		}
	}
	f.Fuzz(func(t *testing.T, s string) {
		u, ok := Parse(s)
		if ok && (Print(u) != s || Canon(u) != u) || !ok && u != 0 {
			t.Errorf("Parse(%q): %x %v", s, u, ok)
		}
	})
}
