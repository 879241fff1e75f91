package root

import (
	"bytes"
	"fmt"
	"strings"
	"testing"

	"strongroom/api"
	"strongroom/device"
	"strongroom/page"
	"strongroom/vault"
)

// hall is a device, a vault and a cell that go together.
type hall struct {
	d *device.Device
	v *vault.Vault
	c *Cell
}

// newHall answers one of so many blocks, all new.
func newHall(t *testing.T, blocks int) hall {
	t.Helper()
	d, e := device.New(blocks)
	if e != api.OK {
		t.Fatalf("New(%d): %v", blocks, e)
	}
	return hall{d: d, v: vault.New(), c: &Cell{}}
}

// putTo answers a hall of two blocks into which so many roots were put; the
// last one of n is "root n".
func putTo(t *testing.T, n int) hall {
	t.Helper()
	h := newHall(t, 2)
	for i := range n {
		h.puts(t, rootOf(i+1))
	}
	return h
}

// rootOf is what putTo puts as a version.
func rootOf(version int) string {
	return fmt.Sprint("root ", version)
}

// puts asks that a Put is OK: one more version, one more that is sealed, and
// nothing that waits.
func (h hall) puts(t *testing.T, plain string) {
	t.Helper()
	n, m := h.c.Version()+1, h.v.Sealed()+1
	if e := Put(h.d, h.v, h.c, []byte(plain)); e != api.OK {
		t.Fatalf("Put of %.20q as version %d: %v", plain, n, e)
	}
	if h.c.Version() != n || h.v.Sealed() != m || h.d.Waiting() != 0 {
		t.Errorf("Put of %.20q: version %d, %d are sealed, %d wait; want %d, %d, none", plain, h.c.Version(), h.v.Sealed(), h.d.Waiting(), n, m)
	}
}

// noPut asks that a Put answers this error, that the version stays, and that
// so many more are sealed.
func (h hall) noPut(t *testing.T, plain []byte, want api.Errno, more int) {
	t.Helper()
	n, m := h.c.Version(), h.v.Sealed()
	if e := Put(h.d, h.v, h.c, plain); e != want {
		t.Errorf("Put of %d bytes: %v; want %v", len(plain), e, want)
	}
	if h.c.Version() != n || h.v.Sealed() != m+more {
		t.Errorf("Put of %d bytes: version %d, %d are sealed; want %d, %d", len(plain), h.c.Version(), h.v.Sealed(), n, m+more)
	}
}

// gets asks that the root is this one.
func (h hall) gets(t *testing.T, want string) {
	t.Helper()
	if b, e := Get(h.d, h.v, h.c); e != api.OK || string(b) != want {
		t.Errorf("Get of version %d: %.20q, %v; want %.20q", h.c.Version(), b, e, want)
	}
}

// noGet asks that no root is got, for this error.
func (h hall) noGet(t *testing.T, want api.Errno) {
	t.Helper()
	if b, e := Get(h.d, h.v, h.c); len(b) != 0 || e != want {
		t.Errorf("Get of version %d: %.20q, %v; want %v", h.c.Version(), b, e, want)
	}
}

// stands asks for the bytes of the first blocks, by their handles.
func (h hall) stands(t *testing.T, handles ...int) {
	t.Helper()
	for i, n := range handles {
		if b := h.raw(t, i); !bytes.Equal(b, block16(n)) {
			t.Errorf("on block %d stand %x; want handle %d", i, b, n)
		}
	}
}

// raw answers a block's bytes.
func (h hall) raw(t *testing.T, block int) []byte {
	t.Helper()
	b, e := h.d.Read(block)
	if e != api.OK {
		t.Fatalf("the device's Read(%d): %v", block, e)
	}
	return b
}

// lays has another hand lay bytes on a block.
func (h hall) lays(t *testing.T, block int, b []byte) {
	t.Helper()
	if e := h.d.Overwrite(block, b); e != api.OK {
		t.Fatalf("Overwrite(%d): %v", block, e)
	}
}

// block16 answers the bytes of a block with a handle below 65536.
func block16(handle int) []byte {
	b := make([]byte, api.BlockSize)
	b[0], b[1] = byte(handle), byte(handle>>8)
	return b
}

// P8.1

func TestNewCell(t *testing.T) {
	for _, blocks := range []int{1, 2, 3, api.MaxBlocks} {
		h := newHall(t, blocks)
		if n := h.c.Version(); n != 0 {
			t.Errorf("version %d", n)
		}
		h.noGet(t, api.ErrNone)
		// There is none, whatever the blocks would say.
		h.lays(t, 0, block16(1))
		h.noGet(t, api.ErrNone)
		h.v.Seal(api.Key{}, page.Beside(api.Page{}, 0), []byte("no root"))
		h.noGet(t, api.ErrNone)
		h.v.Destroy(api.Key{})
		h.noGet(t, api.ErrNone)
		h.d.Limit(0)
		h.noGet(t, api.ErrNone)
	}
	var c Cell
	h := putTo(t, 0)
	h.c = &c
	h.puts(t, "one")
	h.gets(t, "one")
	if c.Version() != 1 {
		t.Errorf("version %d", c.Version())
	}
}

func TestVersionOfNilCell(t *testing.T) {
	var c *Cell
	if n := c.Version(); n != 0 {
		t.Errorf("version %d", n)
	}
}

// nils answers the hall with a nil device, a nil vault, a nil cell, each
// alone and together.
func (h hall) nils() []hall {
	return []hall{{nil, h.v, h.c}, {h.d, nil, h.c}, {h.d, h.v, nil}, {nil, nil, h.c}, {nil, h.v, nil}, {h.d, nil, nil}, {}}
}

func TestGetOfNil(t *testing.T) {
	for n := range 3 {
		h := putTo(t, n)
		gone := putTo(t, n)
		gone.v.Destroy(api.Key{})
		gone.d.Limit(0)
		for _, x := range append(h.nils(), gone.nils()...) {
			x.noGet(t, api.ErrNil)
		}
		if n > 0 {
			h.gets(t, rootOf(n))
		}
	}
}

func TestGetIsReadOfTheRoot(t *testing.T) {
	for n := 1; n < 5; n++ {
		// What is written as the root's very page is read as the root.
		h := putTo(t, n)
		if e := page.Write(h.d, h.v, n%2, api.Page{Id: n, Version: n}, []byte("the same page")); e != api.OK {
			t.Fatal(e)
		}
		h.gets(t, "the same page")
		for _, p := range []api.Page{
			{Id: n + 1, Version: n}, {Id: n, Version: n + 1}, {Id: n}, {Version: n}, {Id: -n, Version: n},
			{Key: api.Key{Tenant: 1}, Id: n, Version: n}, {Key: api.Key{Column: 1}, Id: n, Version: n}, {Key: api.Key{Epoch: 1}, Id: n, Version: n},
		} {
			if e := page.Write(h.d, h.v, n%2, p, []byte("another page")); e != api.OK {
				t.Fatal(e)
			}
			h.noGet(t, api.ErrSeal)
		}
		h.lays(t, n%2, block16(n))
		h.gets(t, rootOf(n))
	}
}

func TestErrorsOfGet(t *testing.T) {
	for n := 1; n < 5; n++ {
		h := putTo(t, n)
		h.d.Limit(0)
		h.noGet(t, api.ErrDown)
		h.d.Limit(1)
		h.gets(t, rootOf(n))
		h.lays(t, n%2, nil)
		h.noGet(t, api.ErrSeal)
		// Without a handle nobody asks for the key.
		h.v.Destroy(api.Key{})
		h.noGet(t, api.ErrSeal)
		h.lays(t, n%2, block16(n))
		h.noGet(t, api.ErrKey)
		h.d.Limit(0)
		h.noGet(t, api.ErrDown)
		small, _ := device.New(1)
		small.Limit(0)
		want := api.ErrDown
		if n%2 == 1 {
			want = api.ErrArg
		}
		hall{small, h.v, h.c}.noGet(t, want)
	}
}

func TestGetOfAnotherDeviceOrVault(t *testing.T) {
	for n := 1; n < 5; n++ {
		h, other, empty := putTo(t, n), putTo(t, n-1), newHall(t, 2)
		hall{other.d, h.v, h.c}.noGet(t, api.ErrSeal)
		hall{h.d, other.v, h.c}.noGet(t, api.ErrSeal)
		hall{empty.d, h.v, h.c}.noGet(t, api.ErrSeal)
		hall{h.d, empty.v, h.c}.noGet(t, api.ErrSeal)
		h.gets(t, rootOf(n))
	}
}

func TestGetChangesNothing(t *testing.T) {
	h := putTo(t, 3)
	h.d.Write(0, []byte("waits"))
	h.d.Limit(1)
	for range 5 {
		h.gets(t, rootOf(3))
	}
	if h.c.Version() != 3 || h.v.Sealed() != 3 || h.d.Waiting() != 1 {
		t.Errorf("version %d, %d are sealed, %d wait", h.c.Version(), h.v.Sealed(), h.d.Waiting())
	}
	if e := h.d.Beat(); e != api.OK {
		t.Errorf("Get was counted: %v", e)
	}
	h.noGet(t, api.ErrDown)
}

func TestGetIsNewMemory(t *testing.T) {
	h := putTo(t, 1)
	b, _ := Get(h.d, h.v, h.c)
	again, _ := Get(h.d, h.v, h.c)
	whole := b[:cap(b)]
	for i := range whole {
		whole[i] ^= 0xff
	}
	h.gets(t, rootOf(1))
	grown := append(again, " and more"...)
	h.puts(t, "two")
	if string(grown) != rootOf(1)+" and more" {
		t.Errorf("an answer has changed: %q", grown)
	}
	h.gets(t, "two")
}

// P8.2

func TestOneBehindTheOther(t *testing.T) {
	for _, blocks := range []int{2, 3, api.MaxBlocks} {
		h := newHall(t, blocks)
		for n := 1; n <= 300; n++ {
			h.puts(t, rootOf(n))
			if h.c.Version() != n {
				t.Fatalf("version %d; want %d", h.c.Version(), n)
			}
			h.gets(t, rootOf(n))
			h.stands(t, n-n%2, n-1+n%2)
		}
	}
}

func TestWhatTheRootIs(t *testing.T) {
	h := newHall(t, 3)
	mark := 0
	for n := 1; n <= 70; n++ {
		// The mark is told by all that was sealed, the version by the roots.
		for i := range n % 3 {
			if e := page.Write(h.d, h.v, 2, api.Page{Key: api.Key{Tenant: i}, Id: n, Version: n}, nil); e != api.OK {
				t.Fatal(e)
			}
			mark++
		}
		h.puts(t, rootOf(n))
		mark++
		p := api.Page{Id: mark, Version: n}
		if b, e := page.Read(h.d, h.v, n%2, p); e != api.OK || string(b) != rootOf(n) {
			t.Errorf("page.Read(%d, %v): %q, %v", n%2, p, b, e)
		}
		if k, ok := h.v.Under(uint64(mark)); k != (api.Key{}) || !ok {
			t.Errorf("Under(%d): %v, %v", mark, k, ok)
		}
		if b, e := h.v.Open(api.Key{}, page.Beside(p, n%2), uint64(mark)); e != api.OK || string(b) != rootOf(n) {
			t.Errorf("Open(%d): %q, %v", mark, b, e)
		}
		if b := h.raw(t, n%2); !bytes.Equal(b, block16(mark)) {
			t.Errorf("version %d stands as %x; want %d", n, b, mark)
		}
		h.gets(t, rootOf(n))
	}
}

func TestVaultThatHasSealedMuch(t *testing.T) {
	h := newHall(t, 2)
	for range 70000 {
		h.v.Seal(api.Key{Tenant: 1}, "", nil)
	}
	h.puts(t, "one")
	h.puts(t, "two")
	h.gets(t, "two")
	if b, e := page.Read(h.d, h.v, 1, api.Page{Id: 70001, Version: 1}); e != api.OK || string(b) != "one" {
		t.Errorf("the first: %q, %v", b, e)
	}
	if b, e := page.Read(h.d, h.v, 0, api.Page{Id: 70002, Version: 2}); e != api.OK || string(b) != "two" {
		t.Errorf("the second: %q, %v", b, e)
	}
}

func TestLengths(t *testing.T) {
	h := newHall(t, 2)
	h.noPut(t, make([]byte, api.MaxPlain+1), api.ErrArg, 0)
	h.noGet(t, api.ErrNone)
	for _, n := range []int{0, 1, 15, 16, 17, api.MaxPlain - 1, api.MaxPlain} {
		plain := strings.Repeat("longer ", n/7+1)[:n]
		h.puts(t, plain)
		h.gets(t, plain)
		for _, more := range []int{api.MaxPlain + 1, 2 * api.MaxPlain, 1 << 20} {
			h.noPut(t, make([]byte, more), api.ErrArg, 0)
		}
		h.gets(t, plain)
	}
	if e := Put(h.d, h.v, h.c, nil); e != api.OK {
		t.Errorf("Put of nil: %v", e)
	}
	h.gets(t, "")
}

func TestDeviceOfOneBlock(t *testing.T) {
	h := newHall(t, 1)
	h.d.Limit(1)
	for range 3 {
		h.noPut(t, []byte("one"), api.ErrArg, 0)
		h.noGet(t, api.ErrNone)
	}
	if e := h.d.Beat(); e != api.OK {
		t.Errorf("Put was counted: %v", e)
	}
	// A cell that has come to an odd version elsewhere puts its next root on
	// block 0, which there is.
	c := putTo(t, 1).c
	h = newHall(t, 1)
	h.c = c
	h.puts(t, "two")
	h.gets(t, "two")
	h.stands(t, 1)
	h.noPut(t, []byte("three"), api.ErrArg, 0)
	h.gets(t, "two")
	h.stands(t, 1)
}

func TestPutOfNil(t *testing.T) {
	for n := range 3 {
		h, gone := putTo(t, n), putTo(t, n)
		gone.v.Destroy(api.Key{})
		gone.d.Limit(0)
		for _, x := range append(h.nils(), gone.nils()...) {
			for _, plain := range [][]byte{nil, []byte("more"), make([]byte, api.MaxPlain+1)} {
				x.noPut(t, plain, api.ErrNil, 0)
			}
		}
		if h.c.Version() != n || h.v.Sealed() != n || h.d.Waiting() != 0 {
			t.Errorf("version %d, %d are sealed, %d wait; want %d, %d, none", h.c.Version(), h.v.Sealed(), h.d.Waiting(), n, n)
		}
		small, _ := device.New(1)
		hall{small, nil, h.c}.noPut(t, nil, api.ErrNil, 0)
		hall{small, h.v, nil}.noPut(t, nil, api.ErrNil, 0)
		h.puts(t, "next")
		h.gets(t, "next")
	}
}

func TestCallsThatPutMakes(t *testing.T) {
	for n := range 3 {
		for calls, waits := range []int{0, 1, 0} {
			h := putTo(t, n)
			h.d.Limit(calls)
			h.noPut(t, []byte("next"), api.ErrDown, 1)
			if h.d.Waiting() != waits {
				t.Errorf("off behind %d calls: %d wait; want %d", calls, h.d.Waiting(), waits)
			}
			h.d.Limit(0)
			h.noPut(t, []byte("next"), api.ErrDown, 1)
		}
		h := putTo(t, n)
		h.d.Limit(3)
		h.puts(t, "next")
		if e := h.d.Beat(); e != api.ErrDown {
			t.Errorf("Put has made fewer calls than three: %v", e)
		}
		h.d.Limit(4)
		h.puts(t, "one more")
		if e := h.d.Beat(); e != api.OK {
			t.Errorf("Put has made more calls than three: %v", e)
		}
	}
}

func TestOrderOfErrors(t *testing.T) {
	long := make([]byte, api.MaxPlain+1)
	h := putTo(t, 2)
	h.d.Limit(0)
	h.noPut(t, long, api.ErrArg, 0)
	h.noPut(t, []byte("three"), api.ErrDown, 1)
	h.v.Destroy(api.Key{})
	h.noPut(t, long, api.ErrArg, 0)
	h.noPut(t, []byte("three"), api.ErrKey, 0)
	h.d, _ = device.New(1)
	h.noPut(t, long, api.ErrArg, 0)
	h.noPut(t, []byte("three"), api.ErrArg, 0)
	h.d.Limit(0)
	h.noPut(t, []byte("three"), api.ErrArg, 0)
}

func TestZeroKeyDestroyed(t *testing.T) {
	for n := range 4 {
		h := putTo(t, n)
		h.v.Destroy(api.Key{Tenant: 1})
		h.v.Destroy(api.Key{Epoch: 1})
		h.puts(t, "next")
		h.gets(t, "next")
		h.v.Destroy(api.Key{})
		h.noPut(t, []byte("more"), api.ErrKey, 0)
		h.noGet(t, api.ErrKey)
		if h.d.Waiting() != 0 || !bytes.Equal(h.raw(t, (n+1)%2), block16(n+1)) {
			t.Errorf("a Put that had no key has changed the device")
		}
	}
	h := newHall(t, 2)
	h.v.Destroy(api.Key{})
	h.noPut(t, nil, api.ErrKey, 0)
	h.noGet(t, api.ErrNone)
}

func TestSyncKeepsAllThatWaits(t *testing.T) {
	h := newHall(t, 4)
	h.d.Write(3, []byte("other"))
	h.d.Write(1, []byte("other"))
	h.puts(t, "one")
	h.d.Crash()
	h.gets(t, "one")
	if b := h.raw(t, 3); string(b[:5]) != "other" {
		t.Errorf("%q", b)
	}
}

func TestPutKeepsNotWhatItIsGiven(t *testing.T) {
	h := newHall(t, 2)
	room := []byte("plain, and room behind")
	if e := Put(h.d, h.v, h.c, room[:5]); e != api.OK || string(room) != "plain, and room behind" {
		t.Errorf("%v, an argument is now %q", e, room)
	}
	copy(room, "xxxxxxxxxxxxxxxxxxxxxx")
	h.gets(t, "plain")
	if string(room) != "xxxxxxxxxxxxxxxxxxxxxx" {
		t.Errorf("Get has changed it: %q", room)
	}
}

func TestTwoCellsBesideOneVault(t *testing.T) {
	one, two := newHall(t, 2), newHall(t, 2)
	two.v = one.v
	for n := 1; n < 6; n++ {
		one.puts(t, fmt.Sprint("of one ", n))
		two.puts(t, fmt.Sprint("of two ", n))
		one.gets(t, fmt.Sprint("of one ", n))
		two.gets(t, fmt.Sprint("of two ", n))
		if one.c.Version() != n || two.c.Version() != n || one.v.Sealed() != 2*n {
			t.Errorf("versions %d, %d of %d that are sealed", one.c.Version(), two.c.Version(), one.v.Sealed())
		}
		// Roots of one version on one block, of two cells.
		mine, its := one.raw(t, n%2), two.raw(t, n%2)
		one.lays(t, n%2, its)
		two.lays(t, n%2, mine)
		one.noGet(t, api.ErrSeal)
		two.noGet(t, api.ErrSeal)
		one.lays(t, n%2, mine)
		two.lays(t, n%2, its)
		one.gets(t, fmt.Sprint("of one ", n))
		two.gets(t, fmt.Sprint("of two ", n))
	}
}

func TestTwoCellsOnOneDevice(t *testing.T) {
	one := newHall(t, 2)
	two := hall{one.d, one.v, &Cell{}}
	one.puts(t, "of one")
	two.puts(t, "of two")
	one.noGet(t, api.ErrSeal)
	two.gets(t, "of two")
	two.puts(t, "of two again")
	one.noGet(t, api.ErrSeal)
	one.puts(t, "of one again")
	two.noGet(t, api.ErrSeal)
	one.gets(t, "of one again")
}
