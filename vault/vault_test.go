package vault

import (
	"bytes"
	"math"
	"math/rand"
	"testing"

	"strongroom/api"
)

var (
	alice = api.Key{Tenant: 1, Column: 2, Epoch: 3}
	bob   = api.Key{Tenant: 2, Column: 2, Epoch: 3}
)

// seals asks that the bytes are sealed as this handle.
func seals(t *testing.T, v *Vault, k api.Key, beside, plain string, want uint64) {
	t.Helper()
	if h, e := v.Seal(k, beside, []byte(plain)); h != want || e != api.OK {
		t.Errorf("Seal(%v, %q, %.20q): %d, %v; want %d", k, beside, plain, h, e, want)
	}
	counts(t, v, int(want))
}

// noSeal asks that nothing is sealed, for this error.
func noSeal(t *testing.T, v *Vault, k api.Key, plain []byte, want api.Errno) {
	t.Helper()
	had := v.Sealed()
	if h, e := v.Seal(k, "x", plain); h != 0 || e != want {
		t.Errorf("Seal(%v) of %d bytes: %d, %v; want %v", k, len(plain), h, e, want)
	}
	counts(t, v, had)
}

// opens asks that the handle opens as these bytes.
func opens(t *testing.T, v *Vault, k api.Key, beside string, h uint64, want string) {
	t.Helper()
	if b, e := v.Open(k, beside, h); e != api.OK || string(b) != want {
		t.Errorf("Open(%v, %q, %d): %.20q, %v; want %.20q", k, beside, h, b, e, want)
	}
}

// noOpen asks that nothing is opened, for this error.
func noOpen(t *testing.T, v *Vault, k api.Key, beside string, h uint64, want api.Errno) {
	t.Helper()
	if b, e := v.Open(k, beside, h); len(b) != 0 || e != want {
		t.Errorf("Open(%v, %q, %d): %.20q, %v; want %v", k, beside, h, b, e, want)
	}
}

// counts asks that so many were sealed.
func counts(t *testing.T, v *Vault, want int) {
	t.Helper()
	if n := v.Sealed(); n != want {
		t.Errorf("Sealed: %d; want %d", n, want)
	}
}

// under asks that the handle was sealed with this key.
func under(t *testing.T, v *Vault, h uint64, want api.Key) {
	t.Helper()
	if k, ok := v.Under(h); k != want || !ok {
		t.Errorf("Under(%d): %v, %v; want %v", h, k, ok, want)
	}
}

// underNone asks that nothing was sealed as the handle.
func underNone(t *testing.T, v *Vault, h uint64) {
	t.Helper()
	if k, ok := v.Under(h); k != (api.Key{}) || ok {
		t.Errorf("Under(%d): %v, %v; want none", h, k, ok)
	}
}

// ends has handles that a vault of n hasn't.
func ends(n uint64) []uint64 {
	return []uint64{0, n + 1, n + 2, 1 << 31, 1 << 32, 1<<32 + 1, 1 << 63, 1<<63 + 1, math.MaxUint64}
}

// belowNought has keys with a number below 0 at each place.
func belowNought() []api.Key {
	var list []api.Key
	for _, n := range []int{-1, -2, math.MinInt32, math.MinInt} {
		list = append(list,
			api.Key{Tenant: n}, api.Key{Column: n}, api.Key{Epoch: n},
			api.Key{Tenant: n, Column: 1, Epoch: 1},
			api.Key{Tenant: 1, Column: n, Epoch: 1},
			api.Key{Tenant: 1, Column: 1, Epoch: n},
			api.Key{Tenant: n, Column: n, Epoch: n})
	}
	return list
}

// P5.1

func TestNewIsEmpty(t *testing.T) {
	v := New()
	if v == nil {
		t.Fatal("New: nil")
	}
	counts(t, v, 0)
	for _, h := range ends(0) {
		underNone(t, v, h)
		noOpen(t, v, api.Key{}, "", h, api.ErrSeal)
	}
}

func TestVaultsAreApart(t *testing.T) {
	v, w := New(), New()
	seals(t, v, alice, "a", "one", 1)
	counts(t, w, 0)
	noOpen(t, w, alice, "a", 1, api.ErrSeal)
	w.Destroy(alice)
	seals(t, v, alice, "a", "two", 2)
	opens(t, v, alice, "a", 1, "one")
	noSeal(t, w, alice, nil, api.ErrKey)
}

func TestHandlesFromOneOn(t *testing.T) {
	v := New()
	for n := range uint64(300) {
		// All three alike, or a key, words or bytes of another.
		k, beside, plain := alice, "a", "same"
		switch n % 4 {
		case 1:
			k = bob
		case 2:
			beside = "b"
		case 3:
			plain = "other"
		}
		seals(t, v, k, beside, plain, n+1)
		underNone(t, v, n+2)
	}
	under(t, v, 1, alice)
	under(t, v, 2, bob)
	under(t, v, 300, alice)
	opens(t, v, alice, "a", 1, "same")
	opens(t, v, alice, "a", 5, "same")
	opens(t, v, alice, "a", 4, "other")
}

func TestWrongCallsTakeNoHandle(t *testing.T) {
	v := New()
	v.Destroy(bob)
	noSeal(t, v, bob, nil, api.ErrKey)
	seals(t, v, alice, "a", "one", 1)
	noSeal(t, v, alice, make([]byte, api.MaxPlain+1), api.ErrArg)
	noSeal(t, v, api.Key{Epoch: -1}, nil, api.ErrArg)
	noSeal(t, v, bob, nil, api.ErrKey)
	v.Open(alice, "b", 1)
	v.Open(alice, "a", 2)
	seals(t, v, alice, "a", "two", 2)
	for _, h := range ends(2) {
		underNone(t, v, h)
	}
}

func TestKeysThatMayBe(t *testing.T) {
	v := New()
	keys := []api.Key{
		{}, {Tenant: 1}, {Column: 1}, {Epoch: 1},
		{Tenant: math.MaxInt, Column: math.MaxInt, Epoch: math.MaxInt},
		{Tenant: 1 << 40}, {Column: 1 << 40}, {Epoch: 1 << 40},
	}
	for i, k := range keys {
		seals(t, v, k, "a", "one", uint64(i)+1)
		under(t, v, uint64(i)+1, k)
		opens(t, v, k, "a", uint64(i)+1, "one")
	}
}

func TestKeysBelowNought(t *testing.T) {
	v := New()
	seals(t, v, api.Key{}, "x", "one", 1)
	for _, k := range belowNought() {
		for _, n := range []int{0, 1, api.MaxPlain, api.MaxPlain + 1} {
			noSeal(t, v, k, make([]byte, n), api.ErrArg)
		}
		noOpen(t, v, k, "x", 1, api.ErrSeal)
		noOpen(t, v, k, "x", 2, api.ErrSeal)
	}
}

func TestErrArgAheadOfErrKey(t *testing.T) {
	v := New()
	for _, k := range belowNought() {
		v.Destroy(k)
		noSeal(t, v, k, nil, api.ErrArg)
		noSeal(t, v, k, make([]byte, api.MaxPlain+1), api.ErrArg)
		noOpen(t, v, k, "x", 1, api.ErrKey)
	}
	v.Destroy(alice)
	noSeal(t, v, alice, make([]byte, api.MaxPlain+1), api.ErrArg)
	noSeal(t, v, alice, make([]byte, api.MaxPlain), api.ErrKey)
	noSeal(t, v, alice, nil, api.ErrKey)
}

// long answers so many bytes, of which none is like its neighbours.
func long(n int) string {
	b := make([]byte, n)
	for i := range b {
		b[i] = byte(i ^ i>>8)
	}
	return string(b)
}

func TestLengths(t *testing.T) {
	v := New()
	for i, n := range []int{0, 1, 2, 255, 256, api.MaxPlain - 1, api.MaxPlain} {
		seals(t, v, alice, "a", long(n), uint64(i)+1)
		opens(t, v, alice, "a", uint64(i)+1, long(n))
	}
	for _, n := range []int{api.MaxPlain + 1, api.MaxPlain + 2, 2 * api.MaxPlain, 1 << 20} {
		noSeal(t, v, alice, make([]byte, n), api.ErrArg)
	}
}

func TestNilIsEmpty(t *testing.T) {
	v := New()
	for i, b := range [][]byte{nil, {}, make([]byte, 0, 9)} {
		if h, e := v.Seal(alice, "a", b); h != uint64(i)+1 || e != api.OK {
			t.Errorf("Seal: %d, %v", h, e)
		}
		opens(t, v, alice, "a", uint64(i)+1, "")
	}
}

// P5.2

func TestOpenAsItWasSealed(t *testing.T) {
	v := New()
	seals(t, v, alice, "a", "one", 1)
	seals(t, v, bob, "b", "two", 2)
	for range 3 {
		opens(t, v, alice, "a", 1, "one")
		opens(t, v, bob, "b", 2, "two")
	}
	seals(t, v, alice, "a", "three", 3)
	opens(t, v, alice, "a", 1, "one")
	opens(t, v, alice, "a", 3, "three")
}

func TestOtherKey(t *testing.T) {
	v := New()
	seals(t, v, alice, "a", "one", 1)
	others := []api.Key{
		{}, bob,
		{Tenant: 0, Column: 2, Epoch: 3}, {Tenant: 1, Column: 1, Epoch: 3}, {Tenant: 1, Column: 2, Epoch: 2},
		{Tenant: 2, Column: 2, Epoch: 3}, {Tenant: 1, Column: 3, Epoch: 3}, {Tenant: 1, Column: 2, Epoch: 4},
		{Tenant: 2, Column: 1, Epoch: 3}, {Tenant: 1, Column: 3, Epoch: 2}, {Tenant: 3, Column: 2, Epoch: 1},
		{Tenant: 1 + 1<<32, Column: 2, Epoch: 3}, {Tenant: -1, Column: 2, Epoch: 3},
	}
	for _, k := range others {
		noOpen(t, v, k, "a", 1, api.ErrSeal)
	}
	opens(t, v, alice, "a", 1, "one")
}

func TestOtherWordsBeside(t *testing.T) {
	words := []string{"", "a", "b", "A", "aa", "ab", " a", "a ", "a\x00", "\x00", "\xff", "a\xff", "é", "e\u0301"}
	v := New()
	for i, beside := range words {
		seals(t, v, alice, beside, beside+"!", uint64(i)+1)
	}
	for i := range words {
		for j, beside := range words {
			if i == j {
				opens(t, v, alice, beside, uint64(i)+1, beside+"!")
			} else {
				noOpen(t, v, alice, beside, uint64(i)+1, api.ErrSeal)
			}
		}
	}
}

func TestLongWordsBeside(t *testing.T) {
	v := New()
	w := long(200000)
	seals(t, v, alice, w, "one", 1)
	opens(t, v, alice, w, 1, "one")
	noOpen(t, v, alice, w[1:], 1, api.ErrSeal)
	noOpen(t, v, alice, w[:len(w)-1], 1, api.ErrSeal)
	noOpen(t, v, alice, w+"x", 1, api.ErrSeal)
}

func TestNoSuchHandle(t *testing.T) {
	v := New()
	for n := range uint64(4) {
		for _, h := range ends(n) {
			noOpen(t, v, alice, "a", h, api.ErrSeal)
			underNone(t, v, h)
		}
		seals(t, v, alice, "a", "one", n+1)
	}
}

func TestDestroyed(t *testing.T) {
	v := New()
	next := api.Key{Tenant: 1, Column: 2, Epoch: 4}
	seals(t, v, alice, "a", "one", 1)
	seals(t, v, next, "a", "two", 2)
	seals(t, v, alice, "b", "three", 3)
	seals(t, v, bob, "a", "four", 4)
	v.Destroy(alice)
	for _, beside := range []string{"", "a", "b"} {
		for h := range uint64(6) {
			noOpen(t, v, alice, beside, h, api.ErrKey)
		}
		noOpen(t, v, alice, beside, math.MaxUint64, api.ErrKey)
	}
	noSeal(t, v, alice, []byte("five"), api.ErrKey)
	// The other keys go on.
	opens(t, v, next, "a", 2, "two")
	opens(t, v, bob, "a", 4, "four")
	noOpen(t, v, next, "a", 1, api.ErrSeal)
	noOpen(t, v, bob, "b", 3, api.ErrSeal)
	noOpen(t, v, bob, "", 1, api.ErrSeal)
	seals(t, v, next, "a", "five", 5)
	opens(t, v, next, "a", 5, "five")
	noOpen(t, v, alice, "a", 1, api.ErrKey)
}

func TestUnderAndSealedOfADestroyedKey(t *testing.T) {
	v := New()
	seals(t, v, alice, "a", "one", 1)
	seals(t, v, bob, "a", "two", 2)
	seals(t, v, alice, "a", "three", 3)
	v.Destroy(alice)
	counts(t, v, 3)
	under(t, v, 1, alice)
	under(t, v, 2, bob)
	under(t, v, 3, alice)
	underNone(t, v, 0)
	underNone(t, v, 4)
	seals(t, v, bob, "a", "four", 4)
	under(t, v, 1, alice)
	under(t, v, 4, bob)
}

func TestDestroyedTwice(t *testing.T) {
	v := New()
	seals(t, v, alice, "a", "one", 1)
	seals(t, v, bob, "a", "two", 2)
	for range 3 {
		v.Destroy(alice)
		noSeal(t, v, alice, nil, api.ErrKey)
		noOpen(t, v, alice, "a", 1, api.ErrKey)
		opens(t, v, bob, "a", 2, "two")
		under(t, v, 1, alice)
		counts(t, v, 2)
	}
}

func TestDestroyedAndNeverUsed(t *testing.T) {
	v := New()
	v.Destroy(alice)
	v.Destroy(api.Key{Tenant: math.MinInt, Column: math.MaxInt})
	counts(t, v, 0)
	noSeal(t, v, alice, nil, api.ErrKey)
	noOpen(t, v, alice, "", 0, api.ErrKey)
	noOpen(t, v, alice, "", 1, api.ErrKey)
	noOpen(t, v, bob, "", 1, api.ErrSeal)
	seals(t, v, bob, "a", "one", 1)
	opens(t, v, bob, "a", 1, "one")
	noOpen(t, v, alice, "a", 1, api.ErrKey)
}

func TestDestroyedForEver(t *testing.T) {
	v := New()
	v.Destroy(alice)
	for n := range 100 {
		k := api.Key{Tenant: 5, Epoch: n}
		seals(t, v, k, "a", "one", uint64(n)+1)
		v.Destroy(k)
		noSeal(t, v, alice, nil, api.ErrKey)
		noOpen(t, v, alice, "a", 1, api.ErrKey)
	}
	for n := range 100 {
		noSeal(t, v, api.Key{Tenant: 5, Epoch: n}, nil, api.ErrKey)
	}
}

func TestEachNumberOfAKeyCounts(t *testing.T) {
	v := New()
	v.Destroy(alice)
	v.Destroy(api.Key{})
	var h uint64
	for a := range 5 {
		for b := range 5 {
			for c := range 5 {
				k := api.Key{Tenant: a, Column: b, Epoch: c}
				if k == alice || k == (api.Key{}) {
					noSeal(t, v, k, nil, api.ErrKey)
					continue
				}
				h++
				seals(t, v, k, "a", "one", h)
				opens(t, v, k, "a", h, "one")
			}
		}
	}
}

func TestOfADestroyedKeyNoBytesAreKept(t *testing.T) {
	v := New()
	seals(t, v, alice, "a", "one", 1)
	seals(t, v, bob, "b", "two", 2)
	v.Destroy(alice)
	if s := v.sealed[0]; len(s.plain) != 0 || s.beside != "" {
		t.Errorf("kept: %q beside %q", s.plain, s.beside)
	}
	if s := v.sealed[1]; string(s.plain) != "two" || s.beside != "b" {
		t.Errorf("not kept: %q beside %q", s.plain, s.beside)
	}
}

func TestSealKeepsNotWhatItIsGiven(t *testing.T) {
	v := New()
	room := []byte("plain, and room behind")
	h, _ := v.Seal(alice, "a", room[:5])
	if string(room) != "plain, and room behind" {
		t.Errorf("an argument has changed: %q", room)
	}
	for i := range room {
		room[i] = 'x'
	}
	opens(t, v, alice, "a", h, "plain")
	if b, _ := v.Open(alice, "a", h); string(room) != "xxxxxxxxxxxxxxxxxxxxxx" {
		t.Errorf("Open has changed it: %q, %q", room, b)
	}
	v.Destroy(alice)
	if string(room) != "xxxxxxxxxxxxxxxxxxxxxx" {
		t.Errorf("Destroy has changed it: %q", room)
	}
}

func TestOpenIsNewMemory(t *testing.T) {
	v := New()
	for i, plain := range []string{"", "one", long(1000)} {
		h := uint64(i) + 1
		seals(t, v, alice, "a", plain, h)
		b, _ := v.Open(alice, "a", h)
		again, _ := v.Open(alice, "a", h)
		whole := b[:cap(b)]
		for n := range whole {
			whole[n] ^= 0xff
		}
		opens(t, v, alice, "a", h, plain)
		if string(again) != plain {
			t.Errorf("two answers share memory: %.20q", again)
		}
		grown := append(again, "more"...)
		opens(t, v, alice, "a", h, plain)
		v.Destroy(bob)
		if string(grown) != plain+"more" {
			t.Errorf("an answer has changed: %.20q", grown)
		}
	}
}

func TestAnswersOutliveTheKey(t *testing.T) {
	v := New()
	seals(t, v, alice, "a", "one", 1)
	b, _ := v.Open(alice, "a", 1)
	v.Destroy(alice)
	if string(b) != "one" {
		t.Errorf("an answer has changed: %q", b)
	}
}

func TestExamples(t *testing.T) {
	v := New()
	seals(t, v, alice, "a", "x", 1)
	noOpen(t, v, alice, "b", 1, api.ErrSeal)
	noOpen(t, v, alice, "a", 2, api.ErrSeal)
}

func TestNilVault(t *testing.T) {
	var v *Vault
	for _, k := range append(belowNought(), api.Key{}, alice) {
		v.Destroy(k)
		noSeal(t, v, k, nil, api.ErrNil)
		noSeal(t, v, k, make([]byte, api.MaxPlain+1), api.ErrNil)
		for _, h := range append(ends(1), 1) {
			noOpen(t, v, k, "", h, api.ErrNil)
			noOpen(t, v, k, "a", h, api.ErrNil)
			underNone(t, v, h)
		}
	}
	counts(t, v, 0)
}

// model is a vault as the chapter's words tell it: plain lists, and whoever
// asks goes over all of them.
type model struct {
	keys      []api.Key
	beside    []string
	plain     []string
	destroyed []api.Key
}

func (m *model) gone(k api.Key) bool {
	for _, d := range m.destroyed {
		if d.Tenant == k.Tenant && d.Column == k.Column && d.Epoch == k.Epoch {
			return true
		}
	}
	return false
}

func (m *model) seal(k api.Key, beside, plain string) (uint64, api.Errno) {
	if min(k.Tenant, k.Column, k.Epoch) < 0 || len(plain) > 65536 {
		return 0, api.ErrArg
	}
	if m.gone(k) {
		return 0, api.ErrKey
	}
	m.keys, m.beside, m.plain = append(m.keys, k), append(m.beside, beside), append(m.plain, plain)
	return uint64(len(m.keys)), api.OK
}

func (m *model) open(k api.Key, beside string, handle uint64) (string, api.Errno) {
	if m.gone(k) {
		return "", api.ErrKey
	}
	for i := range m.keys {
		if uint64(i)+1 == handle && m.keys[i] == k && m.beside[i] == beside {
			return m.plain[i], api.OK
		}
	}
	return "", api.ErrSeal
}

// step does one call, told by four bytes, on both, and holds the answers
// against each other.
func step(t *testing.T, v *Vault, m *model, s []byte) {
	t.Helper()
	k := api.Key{Tenant: int(s[1]&3) - 1, Column: int(s[1]>>2&3) - 1, Epoch: int(s[1]>>4&3) - 1}
	beside, plain := "pq"[:s[2]%3], string(bytes.Repeat(s[3:], int(s[2]>>4)))
	switch s[0] % 8 {
	case 0, 1, 2, 3:
		h, e := v.Seal(k, beside, []byte(plain))
		if wh, we := m.seal(k, beside, plain); h != wh || e != we {
			t.Fatalf("Seal(%v, %q, %q): %d, %v; want %d, %v", k, beside, plain, h, e, wh, we)
		}
	case 4:
		v.Destroy(k)
		m.destroyed = append(m.destroyed, k)
	default:
		// Mostly a handle that there is, with its key, so that some open.
		h := uint64(s[3]) % uint64(len(m.keys)+2)
		if h > 0 && h <= uint64(len(m.keys)) && s[1]&0x80 != 0 {
			k = m.keys[h-1]
		}
		b, e := v.Open(k, beside, h)
		if wb, we := m.open(k, beside, h); string(b) != wb || e != we {
			t.Fatalf("Open(%v, %q, %d): %q, %v; want %q, %v", k, beside, h, b, e, wb, we)
		}
	}
}

// alike asks that both tell the same of all handles.
func alike(t *testing.T, v *Vault, m *model) {
	t.Helper()
	counts(t, v, len(m.keys))
	for i, k := range m.keys {
		h := uint64(i) + 1
		under(t, v, h, k)
		b, e := v.Open(k, m.beside[i], h)
		if wb, we := m.open(k, m.beside[i], h); string(b) != wb || e != we {
			t.Fatalf("Open(%v, %q, %d): %q, %v; want %q, %v", k, m.beside[i], h, b, e, wb, we)
		}
	}
	for _, h := range ends(uint64(len(m.keys))) {
		underNone(t, v, h)
	}
}

func TestAsTheModel(t *testing.T) {
	r := rand.New(rand.NewSource(5))
	for range 200 {
		v, m := New(), &model{}
		for range 80 {
			s := make([]byte, 4)
			r.Read(s)
			step(t, v, m, s)
			alike(t, v, m)
		}
		if t.Failed() {
			return
		}
	}
}

func FuzzAsTheModel(f *testing.F) {
	f.Add([]byte("\x00\x15\x31a\x00\x15\x32b\x05\x95\x01\x01\x04\x15\x00\x00\x05\x95\x01\x01"))
	f.Add([]byte("\x04\x00\x00\x00\x00\x00\x10a\x00\x3f\x21a\x06\x80\x01\x01"))
	f.Fuzz(func(t *testing.T, b []byte) {
		v, m := New(), &model{}
		for ; len(b) >= 4; b = b[4:] {
			step(t, v, m, b[:4])
		}
		alike(t, v, m)
	})
}
