package page

import (
	"bytes"
	"fmt"
	"math"
	"math/rand"
	"strings"
	"testing"

	"strongroom/api"
	"strongroom/device"
	"strongroom/vault"
)

const blocks = 5

var first = api.Page{Key: api.Key{Tenant: 1, Column: 2, Epoch: 3}, Id: 4, Version: 300}

// fresh answers a device of blocks and a vault, both new.
func fresh(t *testing.T) (*device.Device, *vault.Vault) {
	t.Helper()
	d, e := device.New(blocks)
	if e != api.OK {
		t.Fatalf("New: %v", e)
	}
	return d, vault.New()
}

// writes asks that a page is sealed as the next handle, and laid on its block.
func writes(t *testing.T, d *device.Device, v *vault.Vault, block int, p api.Page, plain string) {
	t.Helper()
	had := v.Sealed()
	if e := Write(d, v, block, p, []byte(plain)); e != api.OK {
		t.Errorf("Write(%d, %v, %.20q): %v", block, p, plain, e)
	}
	if n := v.Sealed(); n != had+1 {
		t.Errorf("Write(%d, %v): %d are sealed; want %d", block, p, n, had+1)
	}
}

// noWrite asks that nothing is laid on any block, for this error, and that so
// many more are sealed.
func noWrite(t *testing.T, d *device.Device, v *vault.Vault, block int, p api.Page, plain []byte, want api.Errno, more int) {
	t.Helper()
	had, waiting, stood := v.Sealed(), d.Waiting(), allBlocks(d)
	if e := Write(d, v, block, p, plain); e != want {
		t.Errorf("Write(%d, %v) of %d bytes: %v; want %v", block, p, len(plain), e, want)
	}
	if n := v.Sealed(); n != had+more {
		t.Errorf("Write(%d, %v): %d are sealed; want %d", block, p, n, had+more)
	}
	if d.Waiting() != waiting || allBlocks(d) != stood {
		t.Errorf("Write(%d, %v): the device has changed", block, p)
	}
}

// allBlocks answers what all blocks read as, errors too.
func allBlocks(d *device.Device) string {
	var s strings.Builder
	for i := range d.Blocks() {
		b, e := d.Read(i)
		fmt.Fprintf(&s, "%x %d;", b, e)
	}
	return s.String()
}

// reads asks that a page reads as these bytes.
func reads(t *testing.T, d *device.Device, v *vault.Vault, block int, p api.Page, want string) {
	t.Helper()
	if b, e := Read(d, v, block, p); e != api.OK || string(b) != want {
		t.Errorf("Read(%d, %v): %.20q, %v; want %.20q", block, p, b, e, want)
	}
}

// noRead asks that nothing is read, for this error.
func noRead(t *testing.T, d *device.Device, v *vault.Vault, block int, p api.Page, want api.Errno) {
	t.Helper()
	if b, e := Read(d, v, block, p); len(b) != 0 || e != want {
		t.Errorf("Read(%d, %v): %.20q, %v; want %v", block, p, b, e, want)
	}
}

// raw answers a block's bytes.
func raw(t *testing.T, d *device.Device, block int) []byte {
	t.Helper()
	b, e := d.Read(block)
	if e != api.OK {
		t.Fatalf("the device's Read(%d): %v", block, e)
	}
	return b
}

// lays has another hand lay bytes on a block.
func lays(t *testing.T, d *device.Device, block int, b []byte) {
	t.Helper()
	if e := d.Overwrite(block, b); e != api.OK {
		t.Fatalf("Overwrite(%d): %v", block, e)
	}
}

// noBlocks has numbers of blocks that a device hasn't.
func noBlocks(d *device.Device) []int {
	n := d.Blocks()
	return []int{-1, -2, -n, n, n + 1, api.MaxBlocks, 1 << 32, 1<<32 + 1, -1 << 32, math.MaxInt32, math.MinInt32, math.MaxInt, math.MinInt}
}

// otherPages has pages that differ from p at one place, or change two of its
// numbers with each other.
func otherPages(p api.Page) []api.Page {
	var list []api.Page
	for _, by := range []int{1, -1, 1 << 7, 1 << 32, math.MinInt} {
		for at := range 5 {
			q := p
			*[]*int{&q.Key.Tenant, &q.Key.Column, &q.Key.Epoch, &q.Id, &q.Version}[at] += by
			list = append(list, q)
		}
	}
	for i := range 5 {
		for j := range i {
			q := p
			l := []*int{&q.Key.Tenant, &q.Key.Column, &q.Key.Epoch, &q.Id, &q.Version}
			*l[i], *l[j] = *l[j], *l[i]
			list = append(list, q)
		}
	}
	return append(list, api.Page{})
}

// P7.1

func TestBeside(t *testing.T) {
	least := "\xff\xff\xff\xff\xff\xff\xff\xff\xff\x01" // of -2^63
	most := "\xfe\xff\xff\xff\xff\xff\xff\xff\xff\x01"  // of 2^63-1
	for _, c := range []struct {
		p     api.Page
		block int
		want  string
	}{
		{api.Page{}, 0, "\x00\x00\x00\x00\x00\x00"},
		{first, 1, "\x02\x04\x06\x08\xd8\x04\x02"},
		{api.Page{Key: api.Key{Tenant: 1}}, 0, "\x02\x00\x00\x00\x00\x00"},
		{api.Page{Key: api.Key{Column: 1}}, 0, "\x00\x02\x00\x00\x00\x00"},
		{api.Page{Key: api.Key{Epoch: 1}}, 0, "\x00\x00\x02\x00\x00\x00"},
		{api.Page{Id: 1}, 0, "\x00\x00\x00\x02\x00\x00"},
		{api.Page{Version: 1}, 0, "\x00\x00\x00\x00\x02\x00"},
		{api.Page{}, 1, "\x00\x00\x00\x00\x00\x02"},
		{api.Page{}, 63, "\x00\x00\x00\x00\x00\x7e"},
		{api.Page{}, 64, "\x00\x00\x00\x00\x00\x80\x01"},
		{api.Page{}, 4095, "\x00\x00\x00\x00\x00\xfe\x3f"},
		{api.Page{Key: api.Key{Tenant: -1, Column: -2, Epoch: -3}, Id: -64, Version: -65}, -1, "\x01\x03\x05\x7f\x81\x01\x01"},
		{api.Page{Key: api.Key{Tenant: math.MinInt, Column: math.MaxInt, Epoch: math.MinInt}, Id: math.MaxInt, Version: math.MinInt}, math.MaxInt,
			least + most + least + most + least + most},
		{api.Page{Key: api.Key{Tenant: math.MaxInt, Column: math.MinInt, Epoch: math.MaxInt}, Id: math.MinInt, Version: math.MaxInt}, math.MinInt,
			most + least + most + least + most + least},
	} {
		if s := Beside(c.p, c.block); s != c.want {
			t.Errorf("Beside(%v, %d): %x; want %x", c.p, c.block, s, c.want)
		}
	}
}

func TestBesideTellsPagesApart(t *testing.T) {
	type placed struct {
		p     api.Page
		block int
	}
	numbers := []int{0, 1, -1, 64, math.MinInt}
	all := []placed{{}}
	for at := range 6 {
		var longer []placed
		for _, l := range all {
			for _, n := range numbers {
				next := l
				*[]*int{&next.p.Key.Tenant, &next.p.Key.Column, &next.p.Key.Epoch, &next.p.Id, &next.p.Version, &next.block}[at] = n
				longer = append(longer, next)
			}
		}
		all = longer
	}
	seen := map[string]placed{}
	for _, l := range all {
		s := Beside(l.p, l.block)
		if other, there := seen[s]; there {
			t.Fatalf("Beside of %v and of %v: %x", l, other, s)
		}
		seen[s] = l
	}
}

// block16 answers a block's bytes that begin so.
func block16(s string) []byte {
	b := make([]byte, api.BlockSize)
	copy(b, s)
	return b
}

func TestHandle(t *testing.T) {
	for _, c := range []struct {
		begin string
		want  uint64
	}{
		{"\x01", 1},
		{"\x02", 2},
		{"\xff", 255},
		{"\x00\x01", 256},
		{"\x2c\x01", 300},
		{"\x00\x00\x00\x00\x01", 1 << 32},
		{"\x00\x00\x00\x00\x00\x00\x00\x01", 1 << 56},
		{"\x00\x00\x00\x00\x00\x00\x00\x80", 1 << 63},
		{"\x01\x02\x03\x04\x05\x06\x07\x08", 0x0807060504030201},
		{"\xff\xff\xff\xff\xff\xff\xff\xff", math.MaxUint64},
	} {
		if h, ok := Handle(block16(c.begin)); h != c.want || !ok {
			t.Errorf("Handle(%x): %x, %v; want %x", c.begin, h, ok, c.want)
		}
	}
	for i := range 8 {
		b := block16("")
		b[i] = 0x81
		if h, ok := Handle(b); h != 0x81<<(8*i) || !ok {
			t.Errorf("Handle(%x): %x, %v", b, h, ok)
		}
	}
}

// noHandle asks that bytes have no handle.
func noHandle(t *testing.T, b []byte) {
	t.Helper()
	if h, ok := Handle(b); h != 0 || ok {
		t.Errorf("Handle(%.40x) of %d bytes: %x, %v; want none", b, len(b), h, ok)
	}
}

func TestNoHandle(t *testing.T) {
	noHandle(t, block16(""))
	for i := 8; i < api.BlockSize; i++ {
		for _, x := range []byte{1, 2, 0x7f, 0x80, 0xff} {
			for _, begin := range []string{"", "\x01", "\x01\x02\x03\x04\x05\x06\x07\x08", "\xff\xff\xff\xff\xff\xff\xff\xff"} {
				b := block16(begin)
				b[i] = x
				noHandle(t, b)
			}
		}
	}
	noHandle(t, bytes.Repeat([]byte{0xff}, api.BlockSize))
}

func TestHandleOfAnotherLength(t *testing.T) {
	noHandle(t, nil)
	noHandle(t, []byte{})
	noHandle(t, make([]byte, 0, api.BlockSize))
	for n := range 300 {
		b := make([]byte, n)
		noHandle(t, b)
		if n > 0 && n != api.BlockSize {
			b[0] = 1
			noHandle(t, b)
		}
	}
	long := make([]byte, api.MaxPlain)
	long[0] = 1
	noHandle(t, long)
	// What stands behind a list in its room isn't of it.
	noHandle(t, block16("\x01")[:api.BlockSize-1])
	room := make([]byte, 40)
	room[0], room[16], room[30] = 1, 7, 9
	if h, ok := Handle(room[:16]); h != 1 || !ok {
		t.Errorf("Handle with room behind it: %x, %v", h, ok)
	}
}

func TestHandleChangesNothing(t *testing.T) {
	b := block16("\x01\x02\x03\x04\x05\x06\x07\x08")
	had := string(b)
	Handle(b)
	if string(b) != had {
		t.Errorf("an argument has changed: %x", b)
	}
}

// P7.2

func TestWrittenAndReadAgain(t *testing.T) {
	d, v := fresh(t)
	for i := range blocks {
		p := first
		p.Id = i
		writes(t, d, v, i, p, fmt.Sprint("page ", i))
	}
	for range 2 {
		for i := range blocks {
			p := first
			p.Id = i
			reads(t, d, v, i, p, fmt.Sprint("page ", i))
		}
	}
}

func TestFirstAndLastBlock(t *testing.T) {
	for _, n := range []int{1, 2, api.MaxBlocks} {
		d, _ := device.New(n)
		v := vault.New()
		writes(t, d, v, 0, first, "first")
		reads(t, d, v, 0, first, "first")
		writes(t, d, v, n-1, first, "last")
		reads(t, d, v, n-1, first, "last")
		if n > 1 {
			reads(t, d, v, 0, first, "first")
		}
		noWrite(t, d, v, n, first, nil, api.ErrArg, 0)
		noWrite(t, d, v, -1, first, nil, api.ErrArg, 0)
		noRead(t, d, v, n, first, api.ErrArg)
		noRead(t, d, v, -1, first, api.ErrArg)
	}
}

func TestWhatStandsOnTheBlock(t *testing.T) {
	d, v := fresh(t)
	for _, n := range []int{1, 2, 127, 128, 255, 256, 257, 300, 65535, 65536, 65537, 70000} {
		for v.Sealed() < n-1 {
			v.Seal(api.Key{}, "", nil)
		}
		lays(t, d, 3, bytes.Repeat([]byte{0xff}, api.BlockSize))
		writes(t, d, v, 3, first, "one")
		want := make([]byte, 16)
		want[0], want[1], want[2] = byte(n%256), byte(n/256%256), byte(n/65536)
		if b := raw(t, d, 3); !bytes.Equal(b, want) {
			t.Errorf("handle %d stands as %x", n, b)
		}
		if h, ok := Handle(raw(t, d, 3)); h != uint64(n) || !ok {
			t.Errorf("Handle: %d, %v; want %d", h, ok, n)
		}
		reads(t, d, v, 3, first, "one")
	}
}

func TestHandleOnBlock(t *testing.T) {
	for _, h := range []uint64{1, 255, 256, 1 << 32, 1 << 56, 1 << 63, 0x0807060504030201, math.MaxUint64} {
		if got, ok := Handle(block16(string(handleOnBlock(h)))); got != h || !ok {
			t.Errorf("handle %x is %x, %v, on a block", h, got, ok)
		}
	}
	if s := string(handleOnBlock(0x0807060504030201)); s != "\x01\x02\x03\x04\x05\x06\x07\x08" {
		t.Errorf("%x", s)
	}
}

func TestSealedWithThePagesKeyAndBeside(t *testing.T) {
	d, v := fresh(t)
	writes(t, d, v, 3, first, "one")
	if k, ok := v.Under(1); k != first.Key || !ok {
		t.Errorf("Under(1): %v, %v", k, ok)
	}
	if b, e := v.Open(first.Key, "\x02\x04\x06\x08\xd8\x04\x06", 1); string(b) != "one" || e != api.OK {
		t.Errorf("Open: %q, %v", b, e)
	}
}

func TestReadOfWhatAnotherSealed(t *testing.T) {
	d, v := fresh(t)
	v.Seal(first.Key, "\x02\x04\x06\x08\xd8\x04\x02", []byte("by hand"))
	d.Write(1, []byte{1})
	reads(t, d, v, 1, first, "by hand")
}

func TestLengths(t *testing.T) {
	d, v := fresh(t)
	for _, n := range []int{0, 1, 16, 17, api.MaxPlain - 1, api.MaxPlain} {
		plain := strings.Repeat("longer ", n/7+1)[:n]
		writes(t, d, v, 2, first, plain)
		reads(t, d, v, 2, first, plain)
	}
	for _, n := range []int{api.MaxPlain + 1, 2 * api.MaxPlain, 1 << 20} {
		noWrite(t, d, v, 2, first, make([]byte, n), api.ErrArg, 0)
	}
	if e := Write(d, v, 0, first, nil); e != api.OK {
		t.Errorf("Write of nil: %v", e)
	}
	reads(t, d, v, 0, first, "")
}

func TestNumbersOfAPage(t *testing.T) {
	d, v := fresh(t)
	for _, n := range []int{0, 1, 1 << 40, math.MaxInt} {
		for _, m := range []int{math.MinInt, math.MinInt + 1, -65, -1, 0, 1, math.MaxInt} {
			p := api.Page{Key: api.Key{Tenant: n, Column: n, Epoch: n}, Id: m, Version: m}
			writes(t, d, v, 2, p, "one")
			reads(t, d, v, 2, p, "one")
			q := p
			q.Id++
			noRead(t, d, v, 2, q, api.ErrSeal)
			q = p
			q.Version--
			noRead(t, d, v, 2, q, api.ErrSeal)
		}
	}
}

func TestKeysBelowNought(t *testing.T) {
	d, v := fresh(t)
	writes(t, d, v, 2, first, "one")
	for _, n := range []int{-1, -2, math.MinInt32, math.MinInt} {
		for _, k := range []api.Key{{Tenant: n}, {Column: n}, {Epoch: n}, {Tenant: n, Column: n, Epoch: n}, {Tenant: 1, Column: 2, Epoch: n}} {
			p := api.Page{Key: k, Id: 4, Version: 300}
			noWrite(t, d, v, 2, p, []byte("two"), api.ErrArg, 0)
			noRead(t, d, v, 2, p, api.ErrSeal)
			noRead(t, d, v, 0, p, api.ErrSeal)
		}
	}
	reads(t, d, v, 2, first, "one")
}

func TestNoSuchBlock(t *testing.T) {
	d, v := fresh(t)
	writes(t, d, v, 0, first, "one")
	v.Destroy(api.Key{Tenant: 9})
	for _, i := range noBlocks(d) {
		for _, p := range []api.Page{{}, first, {Key: api.Key{Tenant: -1}}, {Key: api.Key{Tenant: 9}}} {
			noWrite(t, d, v, i, p, nil, api.ErrArg, 0)
			noWrite(t, d, v, i, p, make([]byte, api.MaxPlain+1), api.ErrArg, 0)
			noRead(t, d, v, i, p, api.ErrArg)
		}
	}
	d.Limit(0)
	for _, i := range noBlocks(d) {
		noWrite(t, d, v, i, first, nil, api.ErrArg, 0)
		noRead(t, d, v, i, first, api.ErrArg)
	}
	d.Crash(true)
	reads(t, d, v, 0, first, "one")
}

func TestNeverWritten(t *testing.T) {
	d, v := fresh(t)
	for i := range blocks {
		noRead(t, d, v, i, first, api.ErrSeal)
		noRead(t, d, v, i, api.Page{}, api.ErrSeal)
	}
	writes(t, d, v, 1, first, "one")
	noRead(t, d, v, 0, first, api.ErrSeal)
	noRead(t, d, v, 2, first, api.ErrSeal)
	// Without a handle nobody asks for the key.
	v.Destroy(first.Key)
	noRead(t, d, v, 0, first, api.ErrSeal)
	noRead(t, d, v, 1, first, api.ErrKey)
}

func TestDeviceThatIsOff(t *testing.T) {
	d, v := fresh(t)
	writes(t, d, v, 1, first, "one")
	d.Sync()
	d.Limit(0)
	noRead(t, d, v, 1, first, api.ErrDown)
	noRead(t, d, v, 0, first, api.ErrDown)
	// Seal comes first: its errors are told, and what was sealed stays so.
	noWrite(t, d, v, 1, first, []byte("two"), api.ErrDown, 1)
	noWrite(t, d, v, 1, first, make([]byte, api.MaxPlain+1), api.ErrArg, 0)
	noWrite(t, d, v, 1, api.Page{Key: api.Key{Epoch: -1}}, nil, api.ErrArg, 0)
	v.Destroy(api.Key{Tenant: 9})
	noWrite(t, d, v, 1, api.Page{Key: api.Key{Tenant: 9}}, nil, api.ErrKey, 0)
	noRead(t, d, v, 1, api.Page{Key: api.Key{Tenant: 9}}, api.ErrDown)
	if b, e := v.Open(first.Key, Beside(first, 1), 2); string(b) != "two" || e != api.OK {
		t.Errorf("Open: %q, %v", b, e)
	}
	d.Crash()
	reads(t, d, v, 1, first, "one")
	writes(t, d, v, 1, first, "three")
	reads(t, d, v, 1, first, "three")
}

func TestWriteIsOneCallOfTheDevice(t *testing.T) {
	d, v := fresh(t)
	d.Limit(2)
	writes(t, d, v, 0, first, "one")
	for range 5 {
		reads(t, d, v, 0, first, "one")
		noWrite(t, d, v, blocks, first, nil, api.ErrArg, 0)
		noWrite(t, d, v, 0, first, make([]byte, api.MaxPlain+1), api.ErrArg, 0)
	}
	if n := d.Waiting(); n != 1 {
		t.Errorf("Waiting: %d", n)
	}
	writes(t, d, v, 1, first, "two")
	if n := d.Waiting(); n != 2 {
		t.Errorf("Waiting: %d", n)
	}
	noRead(t, d, v, 0, first, api.ErrDown)
	noWrite(t, d, v, 2, first, nil, api.ErrDown, 1)
}

func TestDestroyedAheadOfWrite(t *testing.T) {
	d, v := fresh(t)
	other := api.Page{Key: api.Key{Tenant: 1, Column: 2, Epoch: 4}, Id: 4, Version: 300}
	writes(t, d, v, 1, other, "one")
	v.Destroy(first.Key)
	noWrite(t, d, v, 1, first, []byte("two"), api.ErrKey, 0)
	noWrite(t, d, v, 1, first, make([]byte, api.MaxPlain+1), api.ErrArg, 0)
	noWrite(t, d, v, blocks, first, nil, api.ErrArg, 0)
	reads(t, d, v, 1, other, "one")
	writes(t, d, v, 1, other, "three")
	reads(t, d, v, 1, other, "three")
}

func TestDestroyedAheadOfRead(t *testing.T) {
	d, v := fresh(t)
	other := api.Page{Key: api.Key{Tenant: 1, Column: 2, Epoch: 4}, Id: 4, Version: 300}
	writes(t, d, v, 1, first, "one")
	writes(t, d, v, 2, other, "two")
	reads(t, d, v, 1, first, "one")
	v.Destroy(first.Key)
	noRead(t, d, v, 1, first, api.ErrKey)
	noRead(t, d, v, 2, first, api.ErrKey)
	noRead(t, d, v, 1, other, api.ErrSeal)
	reads(t, d, v, 2, other, "two")
	// The key's error comes ahead of that of a handle that nobody sealed.
	lays(t, d, 3, block16("\xff\xff"))
	noRead(t, d, v, 3, first, api.ErrKey)
	noRead(t, d, v, 3, other, api.ErrSeal)
}

func TestNilDeviceOrVault(t *testing.T) {
	d, v := fresh(t)
	writes(t, d, v, 1, first, "one")
	off, _ := device.New(2)
	off.Limit(0)
	gone := vault.New()
	gone.Destroy(first.Key)
	for _, c := range []struct {
		d *device.Device
		v *vault.Vault
	}{{nil, v}, {nil, gone}, {d, nil}, {off, nil}, {nil, nil}} {
		for _, i := range append(noBlocks(d), 0, 1) {
			for _, p := range []api.Page{first, {}, {Key: api.Key{Tenant: -1}}} {
				for _, plain := range [][]byte{nil, []byte("two"), make([]byte, api.MaxPlain+1)} {
					if e := Write(c.d, c.v, i, p, plain); e != api.ErrNil {
						t.Errorf("Write(%d, %v): %v", i, p, e)
					}
				}
				noRead(t, c.d, c.v, i, p, api.ErrNil)
			}
		}
	}
	if v.Sealed() != 1 || d.Waiting() != 1 {
		t.Errorf("%d are sealed, %d wait", v.Sealed(), d.Waiting())
	}
	reads(t, d, v, 1, first, "one")
}

func TestWriteKeepsNotWhatItIsGiven(t *testing.T) {
	d, v := fresh(t)
	room := []byte("plain, and room behind")
	if e := Write(d, v, 1, first, room[:5]); e != api.OK || string(room) != "plain, and room behind" {
		t.Errorf("%v, an argument is now %q", e, room)
	}
	copy(room, "xxxxxxxxxxxxxxxxxxxxxx")
	reads(t, d, v, 1, first, "plain")
	if string(room) != "xxxxxxxxxxxxxxxxxxxxxx" {
		t.Errorf("Read has changed it: %q", room)
	}
}

func TestReadIsNewMemory(t *testing.T) {
	d, v := fresh(t)
	writes(t, d, v, 1, first, "one")
	b, _ := Read(d, v, 1, first)
	again, _ := Read(d, v, 1, first)
	whole := b[:cap(b)]
	for i := range whole {
		whole[i] ^= 0xff
	}
	reads(t, d, v, 1, first, "one")
	grown := append(again, "more"...)
	writes(t, d, v, 1, first, "two")
	if string(grown) != "onemore" {
		t.Errorf("an answer has changed: %q", grown)
	}
	reads(t, d, v, 1, first, "two")
}

// P7.3

func TestReadAsAnotherPage(t *testing.T) {
	d, v := fresh(t)
	writes(t, d, v, 3, first, "one")
	for _, q := range otherPages(first) {
		noRead(t, d, v, 3, q, api.ErrSeal)
	}
	for i := range blocks {
		if i != 3 {
			noRead(t, d, v, i, first, api.ErrSeal)
		}
	}
	reads(t, d, v, 3, first, "one")
}

func TestSecondWriteOnTheSameBlock(t *testing.T) {
	d, v := fresh(t)
	next := first
	next.Version++
	writes(t, d, v, 3, first, "one")
	writes(t, d, v, 3, first, "again")
	reads(t, d, v, 3, first, "again")
	writes(t, d, v, 3, next, "two")
	reads(t, d, v, 3, next, "two")
	noRead(t, d, v, 3, first, api.ErrSeal)
	for _, q := range otherPages(first) {
		if q != next {
			noRead(t, d, v, 3, q, api.ErrSeal)
		}
	}
	writes(t, d, v, 3, first, "back")
	reads(t, d, v, 3, first, "back")
	noRead(t, d, v, 3, next, api.ErrSeal)
}

func TestBytesLaidOnAnotherBlock(t *testing.T) {
	d, v := fresh(t)
	writes(t, d, v, 3, first, "one")
	for i := range blocks {
		if i == 3 {
			continue
		}
		lays(t, d, i, raw(t, d, 3))
		noRead(t, d, v, i, first, api.ErrSeal)
		for _, q := range otherPages(first) {
			noRead(t, d, v, i, q, api.ErrSeal)
		}
	}
	reads(t, d, v, 3, first, "one")
	// Two pages that are alike but for their blocks, changed with each other.
	writes(t, d, v, 1, first, "two")
	a, b := raw(t, d, 1), raw(t, d, 3)
	lays(t, d, 1, b)
	lays(t, d, 3, a)
	noRead(t, d, v, 1, first, api.ErrSeal)
	noRead(t, d, v, 3, first, api.ErrSeal)
	lays(t, d, 1, a)
	lays(t, d, 3, b)
	reads(t, d, v, 1, first, "two")
	reads(t, d, v, 3, first, "one")
}

func TestOlderBytesLaidAgain(t *testing.T) {
	d, v := fresh(t)
	next := first
	next.Version++
	writes(t, d, v, 3, first, "one")
	old := raw(t, d, 3)
	writes(t, d, v, 3, next, "two")
	lays(t, d, 3, old)
	noRead(t, d, v, 3, next, api.ErrSeal)
	reads(t, d, v, 3, first, "one")
	writes(t, d, v, 3, next, "three")
	reads(t, d, v, 3, next, "three")
	noRead(t, d, v, 3, first, api.ErrSeal)
}

func TestAnyBytesLaid(t *testing.T) {
	d, v := fresh(t)
	writes(t, d, v, 3, first, "one")
	good := raw(t, d, 3)
	for i := range good {
		for bit := range 8 {
			bad := append([]byte{}, good...)
			bad[i] ^= 1 << bit
			lays(t, d, 3, bad)
			noRead(t, d, v, 3, first, api.ErrSeal)
		}
	}
	for _, s := range []string{"", "\x00", "\x02", "\xff\xff\xff\xff\xff\xff\xff\xff", "\x01\x00\x00\x00\x00\x00\x00\x80", "\x01\x00\x00\x00\x00\x00\x00\x00\x01", "\x00\x01"} {
		lays(t, d, 3, []byte(s))
		noRead(t, d, v, 3, first, api.ErrSeal)
	}
	lays(t, d, 3, []byte{1})
	reads(t, d, v, 3, first, "one")
}

func TestCrashBetweenWriteAndSync(t *testing.T) {
	d, v := fresh(t)
	next := first
	next.Version++
	writes(t, d, v, 3, first, "one")
	d.Crash()
	noRead(t, d, v, 3, first, api.ErrSeal)
	writes(t, d, v, 3, first, "two")
	d.Sync()
	writes(t, d, v, 3, next, "three")
	d.Crash(false)
	reads(t, d, v, 3, first, "two")
	noRead(t, d, v, 3, next, api.ErrSeal)
	writes(t, d, v, 3, next, "four")
	d.Crash(true)
	reads(t, d, v, 3, next, "four")
	noRead(t, d, v, 3, first, api.ErrSeal)
	writes(t, d, v, 3, first, "five")
	d.Sync()
	d.Crash()
	reads(t, d, v, 3, first, "five")
	writes(t, d, v, 3, first, "six")
	writes(t, d, v, 3, first, "seven")
	d.Crash(true, false)
	reads(t, d, v, 3, first, "six")
}

func TestOtherVault(t *testing.T) {
	d, v := fresh(t)
	w := vault.New()
	writes(t, d, v, 3, first, "one")
	noRead(t, d, w, 3, first, api.ErrSeal)
	w.Seal(first.Key, "", []byte("other"))
	noRead(t, d, w, 3, first, api.ErrSeal)
	reads(t, d, v, 3, first, "one")
}

func TestExamples(t *testing.T) {
	d, v := fresh(t)
	p := api.Page{Version: 1}
	writes(t, d, v, 3, p, "one")
	noRead(t, d, v, 3, api.Page{Version: 2}, api.ErrSeal)
	lays(t, d, 4, raw(t, d, 3))
	noRead(t, d, v, 4, p, api.ErrSeal)
	reads(t, d, v, 3, p, "one")
}

// written is a page with its block and its bytes; a block on which nothing
// stands that opens has nil.
type written struct {
	p     api.Page
	block int
	plain string
}

// model is what stands on the blocks, without any bytes: which page it is.
type model struct {
	kept, seen [blocks]*written
	waiting    []*written
	ever       []*written // all that was sealed
	destroyed  map[api.Key]bool
	left       int // calls till it is off, below 0 without a limit
}

func (m *model) write(block int, p api.Page, plain string) api.Errno {
	if block < 0 || block >= blocks || min(p.Key.Tenant, p.Key.Column, p.Key.Epoch) < 0 {
		return api.ErrArg
	}
	if m.destroyed[p.Key] {
		return api.ErrKey
	}
	w := &written{p: p, block: block, plain: plain}
	m.ever = append(m.ever, w)
	if m.left == 0 {
		return api.ErrDown
	}
	m.left--
	m.seen[block] = w
	m.waiting = append(m.waiting, w)
	return api.OK
}

func (m *model) read(block int, p api.Page) (string, api.Errno) {
	if block < 0 || block >= blocks {
		return "", api.ErrArg
	}
	if m.left == 0 {
		return "", api.ErrDown
	}
	w := m.seen[block]
	if w == nil {
		return "", api.ErrSeal
	}
	if m.destroyed[p.Key] {
		return "", api.ErrKey
	}
	if w.p != p || w.block != block {
		return "", api.ErrSeal
	}
	return w.plain, api.OK
}

func (m *model) sync() {
	if m.left == 0 {
		return
	}
	m.left--
	for _, w := range m.waiting {
		m.kept[w.block] = w
	}
	m.waiting = nil
}

func (m *model) crash(keep []bool) {
	for i, w := range m.waiting {
		if i < len(keep) && keep[i] {
			m.kept[w.block] = w
		}
	}
	m.seen, m.waiting, m.left = m.kept, nil, -1
}

func (m *model) overwrite(block int, w *written) {
	m.kept[block], m.seen[block] = w, w
	var left []*written
	for _, x := range m.waiting {
		if x.block != block {
			left = append(left, x)
		}
	}
	m.waiting = left
}

// pair is a device with its vault, and the model of both.
type pair struct {
	d *device.Device
	v *vault.Vault
	m *model
}

func newPair(t *testing.T) pair {
	d, v := fresh(t)
	return pair{d: d, v: v, m: &model{destroyed: map[api.Key]bool{}, left: -1}}
}

// pageOf answers one of a few pages, so that many are alike.
func pageOf(x byte) api.Page {
	return api.Page{Key: api.Key{Tenant: int(x & 1), Epoch: int(x>>1&3) - 1}, Id: int(x >> 3 & 1), Version: -int(x >> 4 & 1)}
}

// step does one call, told by three bytes, on both, and holds the answers
// against each other.
func (b pair) step(t *testing.T, what, x, y byte) {
	t.Helper()
	block, p := int(y)%(blocks+2)-1, pageOf(x)
	in := (block + blocks) % blocks
	switch what % 16 {
	default:
		plain := fmt.Sprint("plain ", len(b.m.ever))
		if e, want := Write(b.d, b.v, block, p, []byte(plain)), b.m.write(block, p, plain); e != want {
			t.Fatalf("Write(%d, %v): %v; want %v", block, p, e, want)
		}
	case 8, 9:
		b.d.Sync()
		b.m.sync()
	case 10:
		keep := []bool{x&1 != 0, x&2 != 0, x&4 != 0, x&8 != 0}
		b.d.Crash(keep...)
		b.m.crash(keep)
	case 11:
		b.d.Limit(int(x % 8))
		b.m.left = int(x % 8)
	case 12:
		if x%8 == 0 {
			b.v.Destroy(p.Key)
			b.m.destroyed[p.Key] = true
		}
	case 13, 14: // what stood on a block at any time
		if n := len(b.m.ever); n > 0 {
			at := int(x) % n
			lays(t, b.d, in, handleOnBlock(uint64(at)+1))
			b.m.overwrite(in, b.m.ever[at])
		}
	case 15: // no handle
		lays(t, b.d, in, []byte{1, 0, 0, 0, 0, 0, 0, 0, x | 1})
		b.m.overwrite(in, nil)
	}
}

// alike asks that each page reads the same from each block.
func (b pair) alike(t *testing.T) {
	t.Helper()
	if n := b.v.Sealed(); n != len(b.m.ever) {
		t.Fatalf("%d are sealed; want %d", n, len(b.m.ever))
	}
	for block := -1; block <= blocks; block++ {
		for x := range byte(32) {
			p := pageOf(x)
			got, e := Read(b.d, b.v, block, p)
			if want, we := b.m.read(block, p); string(got) != want || e != we {
				t.Fatalf("Read(%d, %v): %q, %v; want %q, %v", block, p, got, e, want, we)
			}
		}
	}
}

func TestAsTheModel(t *testing.T) {
	r := rand.New(rand.NewSource(7))
	for range 150 {
		b := newPair(t)
		for range 100 {
			b.step(t, byte(r.Intn(256)), byte(r.Intn(256)), byte(r.Intn(256)))
			b.alike(t)
		}
	}
}

func FuzzAsTheModel(f *testing.F) {
	f.Add([]byte("\x00\x02\x01\x00\x02\x02\x0d\x00\x02\x08\x00\x00\x0a\x00\x00"))
	f.Add([]byte("\x00\x02\x01\x0b\x01\x00\x00\x12\x01\x00\x02\x01\x0a\x01\x00\x0c\x00\x00"))
	f.Fuzz(func(t *testing.T, s []byte) {
		b := newPair(t)
		for ; len(s) >= 3; s = s[3:] {
			b.step(t, s[0], s[1], s[2])
		}
		b.alike(t)
	})
}

func FuzzHandle(f *testing.F) {
	f.Add([]byte("\x01\x00\x00\x00\x00\x00\x00\x00\x00\x00\x00\x00\x00\x00\x00\x00"))
	f.Add([]byte("\x01\x02\x03\x04\x05\x06\x07\x08\x00\x00\x00\x00\x00\x00\x00\x01"))
	f.Fuzz(func(t *testing.T, b []byte) {
		h, ok := Handle(b)
		if ok && (h == 0 || !bytes.Equal(block16(string(handleOnBlock(h))), b)) {
			t.Errorf("Handle(%x): %x", b, h)
		}
		if !ok && (h != 0 || len(b) == 16 && string(b[8:]) == "\x00\x00\x00\x00\x00\x00\x00\x00" && string(b[:8]) != "\x00\x00\x00\x00\x00\x00\x00\x00") {
			t.Errorf("Handle(%x): %x, none", b, h)
		}
	})
}
