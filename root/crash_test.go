package root

import (
	"bytes"
	"fmt"
	"math/rand"
	"testing"

	"strongroom/api"
	"strongroom/device"
	"strongroom/vault"
)

// P8.3

// holds asks that the root is what was put last, "" if nothing was.
func (h hall) holds(t *testing.T, last string) {
	t.Helper()
	if last == "" {
		h.noGet(t, api.ErrNone)
		return
	}
	h.gets(t, last)
}

// bitsOf answers the lowest bits of n as truths, the lowest first.
func bitsOf(n, count int) []bool {
	l := make([]bool, count)
	for i := range l {
		l[i] = n>>i&1 != 0
	}
	return l
}

func TestCrashAtEachCall(t *testing.T) {
	for had := range 5 {
		for calls := range 5 {
			for waits := range 3 {
				for keep := range 16 {
					crashAt(t, had, calls, waits, bitsOf(keep, 4))
				}
			}
		}
	}
}

// crashAt puts a root behind those that were had, on a device that goes off
// behind so many calls and on which other writes wait, and then it crashes.
func crashAt(t *testing.T, had, calls, waits int, keep []bool) {
	t.Helper()
	h, last := newHall(t, 3), ""
	for n := range had {
		last = rootOf(n + 1)
		h.puts(t, last)
	}
	for i := range waits {
		h.d.Write(2, []byte{1, byte(i)})
	}
	h.d.Limit(calls)
	e := Put(h.d, h.v, h.c, []byte("next"))
	if calls >= 3 {
		last = "next"
	}
	if (e == api.OK) != (calls >= 3) || e != api.OK && e != api.ErrDown {
		t.Fatalf("Put that may make %d calls: %v", calls, e)
	}
	if calls <= 3 && last != "" {
		h.noGet(t, api.ErrDown)
	}
	h.d.Crash(keep...)
	h.holds(t, last)
	h.d.Crash(keep...)
	h.holds(t, last)
	h.puts(t, "behind the crash")
	h.gets(t, "behind the crash")
	h.puts(t, "and again")
	h.gets(t, "and again")
}

func TestCrashesOneBehindTheOther(t *testing.T) {
	const tries, ways = 4, 8 // four times off behind 0 to 3 calls, and all kept or nothing
	for way := range ways * ways * ways * ways {
		h, last := putTo(t, way%3), ""
		if n := h.c.Version(); n > 0 {
			last = rootOf(n)
		}
		for i, left := 0, way; i < tries; i, left = i+1, left/ways {
			h.d.Limit(left % 4)
			plain := fmt.Sprint("try ", i)
			if Put(h.d, h.v, h.c, []byte(plain)) == api.OK {
				last = plain
			}
			h.d.Crash(left%ways >= 4)
			h.holds(t, last)
		}
		h.puts(t, "end")
		h.gets(t, "end")
	}
}

func TestOffWithoutACrash(t *testing.T) {
	// What waits is there to be read; the root holds all the same.
	for n := 1; n < 4; n++ {
		for calls := range 3 {
			h := putTo(t, n)
			h.d.Limit(calls)
			h.noPut(t, []byte("lost"), api.ErrDown, 1)
			h.d.Limit(9)
			h.gets(t, rootOf(n))
			h.d.Sync()
			h.gets(t, rootOf(n))
			h.puts(t, "next")
			h.gets(t, "next")
			h.d.Crash()
			h.gets(t, "next")
		}
	}
}

func TestKeptWithoutASync(t *testing.T) {
	// A Put that is OK has nothing that a crash could take.
	for n := 1; n < 5; n++ {
		h := putTo(t, n)
		h.d.Crash()
		h.gets(t, rootOf(n))
		h.d.Write(n%2, []byte("waits"))
		h.d.Crash(false)
		h.gets(t, rootOf(n))
	}
}

func TestExample(t *testing.T) {
	h := newHall(t, 2)
	h.puts(t, "a")
	h.d.Limit(1)
	h.noPut(t, []byte("b"), api.ErrDown, 1)
	h.d.Crash(true, true, true)
	h.gets(t, "a")
	if h.c.Version() != 1 {
		t.Errorf("version %d", h.c.Version())
	}
}

func TestBytesLaidOnTheOtherBlock(t *testing.T) {
	for n := 1; n < 6; n++ {
		h := putTo(t, n)
		at := n % 2
		mine, its := h.raw(t, at), h.raw(t, 1-at)
		h.lays(t, 1-at, mine)
		h.gets(t, rootOf(n))
		h.lays(t, at, its)
		h.noGet(t, api.ErrSeal)
		h.puts(t, "next")
		h.gets(t, "next")
		h.lays(t, at, mine)
		h.gets(t, "next")
		h.lays(t, 1-at, mine)
		h.noGet(t, api.ErrSeal)
	}
}

func TestOlderBytesLaidAgain(t *testing.T) {
	h := newHall(t, 2)
	stood := [][]byte{h.raw(t, 0)}
	for n := 1; n < 12; n++ {
		h.puts(t, rootOf(n))
		mine := h.raw(t, n%2)
		for _, old := range stood {
			h.lays(t, n%2, old)
			h.noGet(t, api.ErrSeal)
			h.lays(t, n%2, mine)
			h.gets(t, rootOf(n))
			h.lays(t, 1-n%2, old)
			h.gets(t, rootOf(n))
		}
		stood = append(stood, mine)
	}
}

func TestEachHandleLaid(t *testing.T) {
	h := putTo(t, 5)
	h.d.Limit(1)
	h.noPut(t, []byte("lost"), api.ErrDown, 1)
	h.d.Crash()
	h.v.Seal(api.Key{}, "", []byte("other"))
	h.puts(t, "six")
	mine := h.v.Sealed()
	for n := range h.v.Sealed() + 300 {
		h.lays(t, 1, block16(n))
		h.gets(t, "six")
		h.lays(t, 0, block16(n))
		if n != mine {
			h.noGet(t, api.ErrSeal)
		}
		h.lays(t, 0, block16(mine))
		h.gets(t, "six")
	}
}

func TestAnyBytesLaid(t *testing.T) {
	for n := 1; n < 4; n++ {
		h := putTo(t, n)
		good := h.raw(t, n%2)
		for i := range good {
			for bit := range 8 {
				bad := append([]byte{}, good...)
				bad[i] ^= 1 << bit
				h.lays(t, 1-n%2, bad)
				h.gets(t, rootOf(n))
				h.lays(t, n%2, bad)
				h.noGet(t, api.ErrSeal)
				h.lays(t, n%2, good)
				h.gets(t, rootOf(n))
			}
		}
		h.lays(t, n%2, bytes.Repeat([]byte{0xff}, api.BlockSize))
		h.noGet(t, api.ErrSeal)
		h.lays(t, n%2, nil)
		h.noGet(t, api.ErrSeal)
		h.lays(t, n%2, good[:1])
		h.gets(t, rootOf(n))
	}
}

func TestLostRootIsNoneLater(t *testing.T) {
	for n := range 4 {
		for calls := 1; calls < 3; calls++ {
			h := putTo(t, n)
			at := (n + 1) % 2
			h.d.Limit(calls)
			h.noPut(t, []byte("lost"), api.ErrDown, 1)
			h.d.Crash(true)
			lost := h.raw(t, at)
			if !bytes.Equal(lost, block16(n+1)) {
				t.Fatalf("the lost root stands as %x", lost)
			}
			h.puts(t, "next") // of the same version, on the same block
			mine := h.raw(t, at)
			h.lays(t, at, lost)
			h.noGet(t, api.ErrSeal)
			h.lays(t, at, mine)
			h.gets(t, "next")
			h.puts(t, "and more")
			h.puts(t, "of its block")
			h.lays(t, at, lost)
			h.noGet(t, api.ErrSeal)
		}
	}
}

func TestAnotherHandAndACrash(t *testing.T) {
	for n := 1; n < 4; n++ {
		for calls := range 4 {
			h := putTo(t, n)
			h.d.Limit(calls)
			Put(h.d, h.v, h.c, []byte("next"))
			last := h.c.Version()
			h.lays(t, last%2, []byte("another hand"))
			h.d.Crash(true)
			h.noGet(t, api.ErrSeal)
			h.puts(t, "behind it")
			h.gets(t, "behind it")
		}
	}
}

func TestWhatWasPutLast(t *testing.T) {
	r := rand.New(rand.NewSource(8))
	for range 400 {
		h, last, stood := newHall(t, 2), "", [][]byte{nil}
		hands := r.Intn(2) == 0
		for i := range 60 {
			switch what := r.Intn(8); {
			case what < 4:
				plain := fmt.Sprint("root ", i)
				if Put(h.d, h.v, h.c, []byte(plain)) == api.OK {
					last = plain
				}
			case what < 6:
				h.d.Limit(r.Intn(8))
			case what < 7:
				h.d.Crash(bitsOf(r.Intn(8), 3)...)
			case hands:
				h.lays(t, r.Intn(2), stood[r.Intn(len(stood))])
			}
			for at := range 2 {
				if b, e := h.d.Read(at); e == api.OK {
					stood = append(stood, b)
				}
			}
			h.lastOr(t, last, hands)
		}
		h.d.Crash()
		h.lastOr(t, last, hands)
	}
}

// lastOr asks for what was put last; or that the device is off; or, if there
// were other hands, for ErrSeal.
func (h hall) lastOr(t *testing.T, last string, hands bool) {
	t.Helper()
	b, e := Get(h.d, h.v, h.c)
	switch {
	case last == "":
		if len(b) != 0 || e != api.ErrNone {
			t.Fatalf("Get: %q, %v; want none", b, e)
		}
	case e == api.OK:
		if string(b) != last {
			t.Fatalf("Get: %q; want %q", b, last)
		}
	case len(b) != 0 || !(e == api.ErrSeal && hands) && h.d.Beat() == api.OK:
		t.Fatalf("Get: %q, %v; want %q", b, e, last)
	}
}

// sealed is a root that the model has sealed; none is nil.
type sealed struct {
	mark, version, block int
	plain                string
}

// disk is the model of a device.
type disk struct {
	kept, seen []*sealed
	waiting    []*sealed
	left       int // calls till it is off, below 0 without a limit
}

// call does one call of Write, Sync or Beat, if the disk isn't off.
func (k *disk) call() bool {
	if k.left == 0 {
		return false
	}
	k.left--
	return true
}

func (k *disk) sync() {
	for _, s := range k.waiting {
		k.kept[s.block] = s
	}
	k.waiting = nil
}

func (k *disk) crash(keep []bool) {
	for i, s := range k.waiting {
		if i < len(keep) && keep[i] {
			k.kept[s.block] = s
		}
	}
	k.seen, k.waiting, k.left = append([]*sealed{}, k.kept...), nil, -1
}

func (k *disk) overwrite(block int, s *sealed) {
	k.kept[block], k.seen[block] = s, s
	var left []*sealed
	for _, x := range k.waiting {
		if x.block != block {
			left = append(left, x)
		}
	}
	k.waiting = left
}

// model is two devices and three cells beside one vault.
type model struct {
	disks []*disk
	cells []sealed // their versions and marks
	ever  []*sealed
	gone  bool // the zero key
}

func (m *model) put(k *disk, c *sealed, plain string) api.Errno {
	version := c.version + 1
	block := version & 1
	if block >= len(k.kept) || len(plain) > api.MaxPlain {
		return api.ErrArg
	}
	if m.gone {
		return api.ErrKey
	}
	s := &sealed{len(m.ever) + 1, version, block, plain}
	m.ever = append(m.ever, s)
	if !k.call() {
		return api.ErrDown
	}
	k.seen[block], k.waiting = s, append(k.waiting, s)
	if !k.call() {
		return api.ErrDown
	}
	k.sync()
	if !k.call() {
		return api.ErrDown
	}
	c.version, c.mark = s.version, s.mark
	return api.OK
}

func (m *model) get(k *disk, c *sealed) (string, api.Errno) {
	if c.version == 0 {
		return "", api.ErrNone
	}
	block := c.version & 1
	if block >= len(k.kept) {
		return "", api.ErrArg
	}
	if k.left == 0 {
		return "", api.ErrDown
	}
	s := k.seen[block]
	if s == nil {
		return "", api.ErrSeal
	}
	if m.gone {
		return "", api.ErrKey
	}
	if s.mark != c.mark || s.version != c.version || s.block != block {
		return "", api.ErrSeal
	}
	return s.plain, api.OK
}

// both is devices and cells beside one vault, and the model of them.
type both struct {
	devices []*device.Device
	cells   []*Cell
	v       *vault.Vault
	m       *model
}

func newBoth(t *testing.T) both {
	t.Helper()
	b := both{v: vault.New(), m: &model{cells: make([]sealed, 3)}}
	for _, n := range []int{3, 1} {
		b.devices = append(b.devices, newHall(t, n).d)
		b.m.disks = append(b.m.disks, &disk{kept: make([]*sealed, n), seen: make([]*sealed, n), left: -1})
	}
	for range b.m.cells {
		b.cells = append(b.cells, &Cell{})
	}
	return b
}

// step does one call, told by three bytes, on both, and holds the answers
// against each other.
func (b both) step(t *testing.T, what, x, y byte) {
	t.Helper()
	i, j := int(min(1, y%4/3)), int(x)%3 // most on the device of more blocks
	d, k, c := b.devices[i], b.m.disks[i], b.cells[j]
	block := int(x>>2) % len(k.kept)
	switch what % 16 {
	default:
		plain := fmt.Sprint("root ", len(b.m.ever))
		if x == 0xff {
			plain = string(make([]byte, api.MaxPlain+1))
		}
		if e, want := Put(d, b.v, c, []byte(plain)), b.m.put(k, &b.m.cells[j], plain); e != want {
			t.Fatalf("Put of cell %d on device %d: %v; want %v", j, i, e, want)
		}
	case 9, 10:
		d.Limit(int(x % 8))
		k.left = int(x % 8)
	case 11:
		keep := bitsOf(int(x), 4)
		d.Crash(keep...)
		k.crash(keep)
	case 12, 13: // what was sealed at any time, on any block
		if n := len(b.m.ever); n > 0 {
			at := int(y>>2) % n
			d.Overwrite(block, block16(at+1))
			k.overwrite(block, b.m.ever[at])
		}
	case 14: // no handle
		d.Overwrite(block, []byte{1, 0, 0, 0, 0, 0, 0, 0, x | 1})
		k.overwrite(block, nil)
	case 15: // what another seals with the same key, or the key's end
		if x%16 == 0 {
			b.v.Destroy(api.Key{})
			b.m.gone = true
		} else if _, e := b.v.Seal(api.Key{}, "", []byte("other")); e == api.OK {
			b.m.ever = append(b.m.ever, &sealed{block: block})
		}
	}
}

// alike asks that each cell says the same, and its root on each device.
func (b both) alike(t *testing.T) {
	t.Helper()
	if n := b.v.Sealed(); n != len(b.m.ever) {
		t.Fatalf("%d are sealed; want %d", n, len(b.m.ever))
	}
	for j, c := range b.cells {
		if n := c.Version(); n != b.m.cells[j].version {
			t.Fatalf("cell %d has version %d; want %d", j, n, b.m.cells[j].version)
		}
		for i, d := range b.devices {
			if d.Waiting() != len(b.m.disks[i].waiting) {
				t.Fatalf("on device %d %d wait; want %d", i, d.Waiting(), len(b.m.disks[i].waiting))
			}
			got, e := Get(d, b.v, c)
			if want, we := b.m.get(b.m.disks[i], &b.m.cells[j]); string(got) != want || e != we {
				t.Fatalf("Get of cell %d on device %d: %.20q, %v; want %.20q, %v", j, i, got, e, want, we)
			}
		}
	}
}

func TestAsTheModel(t *testing.T) {
	r := rand.New(rand.NewSource(8))
	for range 500 {
		b := newBoth(t)
		for range 120 {
			b.step(t, byte(r.Intn(256)), byte(r.Intn(256)), byte(r.Intn(256)))
			b.alike(t)
		}
	}
}

func FuzzAsTheModel(f *testing.F) {
	f.Add([]byte("\x00\x00\x00\x00\x00\x00\x09\x01\x00\x00\x00\x00\x0b\x0f\x00\x00\x00\x00\x0c\x04\x08"))
	f.Add([]byte("\x00\x00\x00\x00\x01\x00\x0d\x04\x00\x00\x00\x03\x0f\x01\x00\x00\x02\x00\x0f\x00\x00"))
	f.Fuzz(func(t *testing.T, s []byte) {
		b := newBoth(t)
		for ; len(s) >= 3; s = s[3:] {
			b.step(t, s[0], s[1], s[2])
		}
		b.alike(t)
	})
}
