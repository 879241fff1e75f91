package store

import (
	"bytes"
	"fmt"
	"math"
	"slices"
	"strings"
	"testing"

	"strongroom/api"
	"strongroom/root"
)

// P9.4

func TestCommit(t *testing.T) {
	k := api.Key{Tenant: 1, Column: 2, Epoch: 3}
	h := newHall(t, 8)
	// In the order of the changes, not of the names: the free blocks from the
	// least on, the next handles as Ids, the next version of the cell.
	h.commits(t, under(k, "c", "sea"), put("a", ""), put("b", "bee"))
	h.lists(t, blob("a", 0, 0, 0, 3, 2, 1, 0), blob("b", 0, 0, 0, 4, 3, 1, 3), blob("c", 1, 2, 3, 2, 1, 1, 3))
	h.hasOpened(t, map[string]string{"a": "", "b": "bee", "c": "sea"})
	for block, handle := range []int{0, 4, 1, 2, 3, 0, 0, 0} {
		if b := h.raw(t, block); !bytes.Equal(b, block16(handle)) {
			t.Errorf("on block %d stand %x; want handle %d", block, b, handle)
		}
	}
	// Laid again on other blocks, with another key; what stood ahead is free.
	h.commits(t, drop("a"), under(api.Key{Epoch: 4}, "c", "again"))
	h.lists(t, blob("b", 0, 0, 0, 4, 3, 1, 3), blob("c", 0, 0, 4, 5, 5, 2, 5))
	h.hasOpened(t, map[string]string{"b": "bee", "c": "again"})
	h.commits(t, put("d", "dee"), drop("b"), put("e", "e"))
	h.lists(t, blob("c", 0, 0, 4, 5, 5, 2, 5), blob("d", 0, 0, 0, 2, 7, 3, 3), blob("e", 0, 0, 0, 3, 8, 3, 1))
	h.commits(t, put("b", "bee again"))
	h.lists(t, blob("b", 0, 0, 0, 4, 10, 4, 9), blob("c", 0, 0, 4, 5, 5, 2, 5), blob("d", 0, 0, 0, 2, 7, 3, 3), blob("e", 0, 0, 0, 3, 8, 3, 1))
	h.hasOpened(t, map[string]string{"b": "bee again", "c": "again", "d": "dee", "e": "e"})
	h.commits(t, drop("b"), drop("c"), drop("d"), drop("e"))
	h.hasOpened(t, nil)
}

func TestTheRootIsTheDirectory(t *testing.T) {
	h := newHall(t, 8)
	for i, l := range [][]api.Change{nil, {put("b", "bee"), put("a", "ay")}, {}, {drop("b")}, {put("a", "again")}} {
		h.commits(t, l...)
		b, e := root.Get(h.d, h.v, h.c)
		if want := Directory(h.s.List()); e != api.OK || !bytes.Equal(b, want) {
			t.Errorf("Commit %d: the root is %x, %v; want %x", i, b, e, want)
		}
	}
	if b, _ := root.Get(h.d, h.v, h.c); string(b) != "\x01\x01a\x00\x00\x00\x04\x0e\x0a\x0a" {
		t.Errorf("the root is %x", b)
	}
}

func TestNoChanges(t *testing.T) {
	for _, l := range [][]api.Change{nil, {}} {
		h := newHall(t, 2) // there is no block but the root's
		for n := range 4 {
			h.commits(t, l...)
			h.hasOpened(t, nil)
			if h.c.Version() != n+1 {
				t.Errorf("version %d", h.c.Version())
			}
		}
		h = newHall(t, 3)
		h.commits(t, put("a", "ay"))
		want := h.s.List()
		h.commits(t, l...)
		h.lists(t, want...)
		h.hasOpened(t, map[string]string{"a": "ay"})
		h.d.Limit(2)
		if e := h.s.Commit(l); e != api.ErrDown {
			t.Errorf("%v", e)
		}
	}
}

func TestIdIsToldByAllThatWasSealed(t *testing.T) {
	h := newHall(t, 8)
	for range 300 {
		h.v.Seal(api.Key{Tenant: 7}, "", nil)
	}
	h.commits(t, put("a", "ay"), put("b", "bee"))
	h.lists(t, blob("a", 0, 0, 0, 2, 301, 1, 2), blob("b", 0, 0, 0, 3, 302, 1, 3))
	h.roots(t, Directory(h.s.List())) // the cell's version goes on without the store
	h.commits(t, put("a", "again"))
	h.lists(t, blob("a", 0, 0, 0, 4, 305, 3, 5), blob("b", 0, 0, 0, 3, 302, 1, 3))
	h.hasOpened(t, map[string]string{"a": "again", "b": "bee"})
}

func TestDropHasItsKeyAndBodyForNothing(t *testing.T) {
	h := newHall(t, 4)
	h.commits(t, put("a", "ay"), put("b", "bee"))
	h.commits(t, api.Change{Name: "a", Key: api.Key{Tenant: 1}, Body: []byte("body"), Drop: true})
	h.hasOpened(t, map[string]string{"b": "bee"})
	if h.v.Sealed() != 4 {
		t.Errorf("%d are sealed", h.v.Sealed())
	}
}

func TestLengthsOfBodies(t *testing.T) {
	h := newHall(t, 6)
	want := map[string]string{}
	for _, n := range []int{0, 1, 15, 16, 17, api.MaxPlain - 1, api.MaxPlain} {
		want["a"] = strings.Repeat("longer ", n/7+1)[:n]
		h.commits(t, put("a", want["a"]))
		h.hasOpened(t, want)
	}
	h.commits(t, api.Change{Name: "nil"}, put("b", want["a"]))
	want["nil"], want["b"] = "", want["a"]
	h.hasOpened(t, want)
	for _, n := range []int{api.MaxPlain + 1, 2 * api.MaxPlain, 1 << 20} {
		h.noCommit(t, api.ErrArg, put("a", string(make([]byte, n))))
		h.noCommit(t, api.ErrArg, put("c", "sea"), put("a", string(make([]byte, n))))
		h.noCommit(t, api.ErrArg, api.Change{Name: "a", Body: make([]byte, n), Drop: true})
	}
}

func TestNames(t *testing.T) {
	h := newHall(t, 400)
	long := strings.Repeat("n", api.MaxName)
	for _, name := range []string{"", long + "n", long + long, strings.Repeat("n", 1<<20), strings.Repeat("ä", 21), strings.Repeat("\x00", 41)} {
		h.noCommit(t, api.ErrArg, put(name, ""))
		h.noCommit(t, api.ErrArg, drop(name))
		h.noCommit(t, api.ErrArg, put("a", ""), put("b", ""), put(name, ""))
	}
	want := map[string]string{long: "long", strings.Repeat("ä", 20): "letters", " ": "a blank", "a/b\nc": "and more"}
	l := []api.Change{}
	for x := range 256 {
		want[string([]byte{byte(x)})] = fmt.Sprint(x)
	}
	for name, body := range want {
		l = append(l, put(name, body))
	}
	h.commits(t, l...)
	h.hasOpened(t, want)
}

func TestKeysBelowNought(t *testing.T) {
	h := newHall(t, 6)
	most := api.Key{Tenant: math.MaxInt, Column: math.MaxInt, Epoch: math.MaxInt}
	h.commits(t, under(most, "a", "ay"), put("b", "bee"))
	for _, n := range []int{-1, -2, math.MinInt} {
		for _, k := range []api.Key{{Tenant: n}, {Column: n}, {Epoch: n}, {Tenant: n, Column: 1, Epoch: 1}, {Tenant: n, Column: n, Epoch: n}} {
			h.noCommit(t, api.ErrArg, under(k, "c", "sea"))
			h.noCommit(t, api.ErrArg, under(k, "a", "sea"))
			h.noCommit(t, api.ErrArg, put("c", "sea"), api.Change{Name: "a", Key: k, Drop: true})
		}
	}
	h.hasOpened(t, map[string]string{"a": "ay", "b": "bee"})
}

func TestSameNameTwice(t *testing.T) {
	h := newHall(t, 8)
	h.commits(t, put("a", "ay"), put("b", "bee"))
	for _, l := range [][]api.Change{
		{put("a", ""), put("a", "")}, {drop("a"), drop("a")}, {drop("a"), put("a", "")}, {put("a", ""), drop("a")},
		{put("c", ""), put("c", "")}, {put("c", ""), drop("c")}, {put("c", ""), put("d", ""), put("a", ""), put("c", "")},
		{put("c", ""), put("c\x00", ""), put("c", "")},
	} {
		h.noCommit(t, api.ErrArg, l...)
	}
	h.commits(t, put("c", ""), put("c\x00", "nought"), put("C", ""))
	h.hasOpened(t, map[string]string{"a": "ay", "b": "bee", "c": "", "c\x00": "nought", "C": ""})
}

func TestDropOfNone(t *testing.T) {
	h := newHall(t, 8)
	h.noCommit(t, api.ErrNone, drop("a"))
	h.commits(t, put("a", "ay"), put("b", "bee"))
	h.noCommit(t, api.ErrNone, drop("c"))
	h.noCommit(t, api.ErrNone, drop("a"), put("d", ""), drop("c"))
	h.noCommit(t, api.ErrNone, drop("a\x00"))
	h.commits(t, drop("a"))
	h.noCommit(t, api.ErrNone, drop("a"))
	h.commits(t, put("a", "again"))
	h.commits(t, drop("a"), drop("b"))
	h.hasOpened(t, nil)
}

// numbered answers changes that lay so many blobs, from number first on.
func numbered(first, n int) []api.Change {
	var l []api.Change
	for i := range n {
		l = append(l, put(fmt.Sprintf("name %04d", first+i), fmt.Sprint(first+i)))
	}
	return l
}

func TestAsManyFreeBlocksAsAreLaid(t *testing.T) {
	for free := range 6 {
		h := newHall(t, 2+free)
		for n := free + 1; n < free+4; n++ {
			h.noCommit(t, api.ErrFull, numbered(0, n)...)
		}
		h.commits(t, numbered(0, free)...)
		if h.s.Free() != 0 || len(h.s.List()) != free {
			t.Fatalf("%d free, %d blobs", h.s.Free(), len(h.s.List()))
		}
		h.noCommit(t, api.ErrFull, numbered(9, 1)...)
		if free == 0 {
			continue
		}
		// What is dropped or laid anew leaves its block free only behind the Commit.
		h.noCommit(t, api.ErrFull, put("name 0000", "again"))
		h.noCommit(t, api.ErrFull, drop("name 0000"), put("other", ""))
		h.noCommit(t, api.ErrFull, put("other", ""), drop("name 0000"))
		h.commits(t, drop("name 0000"))
		h.commits(t, put("other", "one"))
		h.commits(t, drop("other"))
		if free > 1 {
			h.noCommit(t, api.ErrFull, put("other", ""), put("name 0001", ""))
			h.commits(t, put("name 0001", "again"))
			h.gets(t, "name 0001", "again")
		}
	}
	h := newHall(t, 4)
	h.noCommit(t, api.ErrFull, numbered(0, 5000)...)
	h.commits(t, numbered(0, 1)...)
	for i := range 20 {
		h.commits(t, put("name 0000", fmt.Sprint("again ", i)))
		h.hasOpened(t, map[string]string{"name 0000": fmt.Sprint("again ", i)})
		if x := h.s.List()[0]; x.Block != 3-i%2 {
			t.Errorf("%v", x)
		}
	}
}

func TestMaxBlobs(t *testing.T) {
	h := newHall(t, api.MaxBlocks)
	h.noCommit(t, api.ErrFull, numbered(0, api.MaxBlobs+1)...)
	h.commits(t, numbered(0, api.MaxBlobs-1)...)
	h.noCommit(t, api.ErrFull, numbered(2000, 2)...)
	h.commits(t, numbered(2000, 1)...)
	h.opens(t)
	if n := len(h.s.List()); n != api.MaxBlobs {
		t.Fatalf("%d blobs", n)
	}
	h.noCommit(t, api.ErrFull, put("more", ""))
	h.noCommit(t, api.ErrFull, put("more", ""), put("name 0000", ""))
	h.noCommit(t, api.ErrFull, put("more", ""), put("still more", ""), drop("name 0000"))
	// What counts is how many there would be.
	h.commits(t, put("name 0000", "again"))
	h.commits(t, put("more", "body"), drop("name 0001"))
	h.commits(t, drop("name 0002"), put("still more", "body"), put("name 0000", "and again"))
	h.opens(t)
	if n := len(h.s.List()); n != api.MaxBlobs || h.s.Free() != api.MaxBlocks-2-n {
		t.Errorf("%d blobs, %d free", n, h.s.Free())
	}
	h.gets(t, "name 0000", "and again")
	h.gets(t, "more", "body")
	h.gets(t, "name 0998", "998")
	h.noGet(t, "name 0001", api.ErrNone)
}

// wide answers changes whose directory has just so many bytes, if they are
// the first of a vault and a cell, on a device of as many blocks as may be.
func wide(t *testing.T, size int) []api.Change {
	t.Helper()
	const n, least = 900, 32
	k := api.Key{Tenant: math.MaxInt, Column: math.MaxInt, Epoch: math.MaxInt}
	l, blobs := make([]api.Change, n), make([]api.Blob, n)
	left := size
	for i := range l {
		l[i] = under(k, fmt.Sprintf("%04d", i)+strings.Repeat("n", least-4), "")
		blobs[i] = blob(l[i].Name, k.Tenant, k.Column, k.Epoch, 2+i, 1+i, 1, 0)
	}
	left -= len(Directory(blobs))
	for i := range l {
		more := min(left, api.MaxName-least)
		l[i].Name += strings.Repeat("n", more)
		blobs[i].Name = l[i].Name
		left -= more
	}
	if got := len(Directory(blobs)); got != size {
		t.Fatalf("%d bytes; want %d", got, size)
	}
	return l
}

func TestDirectoryOfAsManyBytesAsAPage(t *testing.T) {
	h := newHall(t, api.MaxBlocks)
	for more := 1; more < 4; more++ {
		h.noCommit(t, api.ErrFull, wide(t, api.MaxPlain+more)...)
	}
	l := wide(t, api.MaxPlain)
	h.commits(t, l...)
	if b, e := root.Get(h.d, h.v, h.c); len(b) != api.MaxPlain || e != api.OK {
		t.Fatalf("the root has %d bytes, %v", len(b), e)
	}
	h.opens(t)
	if n := len(h.s.List()); n != len(l) {
		t.Fatalf("%d blobs", n)
	}
	h.commits(t)
	// There are fewer than MaxBlobs, and blocks are free, but no byte is.
	h.noCommit(t, api.ErrFull, put("a", ""))
	h.noCommit(t, api.ErrFull, under(l[0].Key, l[0].Name, strings.Repeat("b", 64))) // a size of two bytes
	h.noCommit(t, api.ErrFull, put("a", ""), put(l[0].Name, ""), put(l[1].Name, strings.Repeat("b", api.MaxPlain)), under(l[2].Key, l[2].Name, ""), put("b", ""), put("c", ""), put("d", ""), put("e", ""), put("f", ""))
	h.commits(t, put("a", ""), drop(l[0].Name))
	h.opens(t)
	h.gets(t, "a", "")
	h.noGet(t, l[0].Name, api.ErrNone)
}

func TestDestroyedKeys(t *testing.T) {
	k, other := api.Key{Tenant: 1, Column: 2, Epoch: 3}, api.Key{Tenant: 1, Column: 2, Epoch: 4}
	h := newHall(t, 10)
	h.commits(t, under(k, "laid", "laid"), under(k, "dropped", "dropped"), under(k, "stays", "stays"), put("a", "ay"))
	h.v.Destroy(k)
	// Of one that is laid, wherever it stands among the changes.
	h.noCommit(t, api.ErrKey, under(k, "laid", "again"))
	h.noCommit(t, api.ErrKey, under(k, "new", "new"))
	h.noCommit(t, api.ErrKey, put("a", "again"), drop("dropped"), under(k, "new", "new"), put("b", "bee"))
	// Not of one that is dropped, nor of one that stays, nor of what stood
	// ahead.
	h.commits(t, api.Change{Name: "dropped", Key: k, Drop: true}, put("a", "again"))
	h.commits(t, under(other, "laid", "again"))
	h.gets(t, "laid", "again")
	h.gets(t, "a", "again")
	h.noGet(t, "stays", api.ErrKey)
	h.noGet(t, "dropped", api.ErrNone)
	h.opens(t)
	h.noGet(t, "stays", api.ErrKey)
	h.commits(t, drop("stays"))
	h.hasOpened(t, map[string]string{"laid": "again", "a": "again"})
	if e := h.s.Commit([]api.Change{under(k, "new", "new")}); e != api.ErrKey {
		t.Errorf("%v", e)
	}
	h.commits(t) // it isn't down
}

func TestZeroKeyDestroyed(t *testing.T) {
	k := api.Key{Tenant: 1}
	h := newHall(t, 6)
	h.commits(t, under(k, "a", "ay"))
	h.v.Destroy(api.Key{})
	h.noCommit(t, api.ErrKey, put("a", "again"))
	h.noCommit(t, api.ErrKey, under(k, "a", "again"), put("b", "bee"))
	// No blob that is laid has it, but the root: the blobs are as ever, and
	// the store is down.
	if e := h.s.Commit([]api.Change{under(k, "a", "again")}); e != api.ErrKey {
		t.Errorf("%v", e)
	}
	h.has(t, map[string]string{"a": "ay"})
	h.noCommit(t, api.ErrDown)
	h.noCommit(t, api.ErrDown, put("a", "again"))
	h.has(t, map[string]string{"a": "ay"})
	h.noOpen(t, api.ErrKey)
}

func TestOrderOfErrors(t *testing.T) {
	gone := api.Key{Tenant: 9}
	h := newHall(t, 5)
	h.commits(t, put("a", "ay"), put("b", "bee"))
	h.v.Destroy(gone)
	arg := []api.Change{put("", ""), put(strings.Repeat("n", 41), ""), under(api.Key{Column: -1}, "c", ""), under(api.Key{Epoch: -1}, "d", ""), put("e", string(make([]byte, api.MaxPlain+1)))}
	none, full, key := drop("none"), put("full", ""), under(gone, "gone", "")
	all := [][]api.Change{{none}, {key}, {full, put("fuller", "")}}
	// ErrArg, wherever it stands, ahead of ErrNone, of ErrFull, of ErrKey.
	for _, x := range arg {
		for _, l := range all {
			h.noCommit(t, api.ErrArg, append(slices.Clone(l), x)...)
			h.noCommit(t, api.ErrArg, append([]api.Change{x}, l...)...)
		}
	}
	h.noCommit(t, api.ErrArg, none, key, full, none)
	// ErrNone ahead of ErrFull and of ErrKey, ErrFull ahead of ErrKey.
	h.noCommit(t, api.ErrNone, full, put("fuller", ""), none)
	h.noCommit(t, api.ErrNone, key, none)
	h.noCommit(t, api.ErrFull, key, full)
	h.noCommit(t, api.ErrFull, full, key)
	h.noCommit(t, api.ErrKey, key)
	// All of these ahead of what the device says, which then is down; and then
	// ErrDown ahead of them.
	h.d.Limit(0)
	h.noCommit(t, api.ErrArg, arg[0])
	h.noCommit(t, api.ErrNone, none)
	h.noCommit(t, api.ErrFull, full, put("fuller", ""))
	h.noCommit(t, api.ErrKey, key)
	if e := h.s.Commit([]api.Change{full}); e != api.ErrDown {
		t.Errorf("%v", e)
	}
	h.d.Crash()
	for _, l := range append(all, arg, nil, []api.Change{full}, []api.Change{full, full}) {
		h.noCommit(t, api.ErrDown, l...)
	}
	h.hasOpened(t, map[string]string{"a": "ay", "b": "bee"})
	h.noCommit(t, api.ErrArg, arg...)
	h.commits(t, full)
}

func TestFullAheadOfKeyByMaxBlobsAndByBytes(t *testing.T) {
	gone := api.Key{Tenant: 9}
	h := newHall(t, api.MaxBlocks)
	h.v.Destroy(gone)
	h.noCommit(t, api.ErrFull, append(numbered(0, api.MaxBlobs), under(gone, "a", ""))...)
	h.noCommit(t, api.ErrKey, append(numbered(0, api.MaxBlobs-1), under(gone, "a", ""))...)
	h.noCommit(t, api.ErrFull, append(wide(t, api.MaxPlain), under(gone, "a", ""))...)
	h.noCommit(t, api.ErrNone, append(wide(t, api.MaxPlain+1), drop("a"))...)
	h.noCommit(t, api.ErrArg, append(wide(t, api.MaxPlain+1), drop(""))...)
}

func TestCallsThatCommitMakes(t *testing.T) {
	for n := range 5 {
		h := newHall(t, 20)
		h.commits(t, put("a", "ay"), put("z", "zed"))
		l := append(numbered(0, n), drop("a"))
		h.d.Limit(n + 3) // a Write each, and the root's Write, Sync and Beat
		h.commits(t, l...)
		if e := h.d.Beat(); e != api.ErrDown {
			t.Errorf("fewer calls than %d: %v", n+3, e)
		}
		h.d.Crash()
		h.d.Limit(n + 4)
		h.commits(t, append(numbered(0, n), drop("z"))...)
		if e := h.d.Beat(); e != api.OK {
			t.Errorf("more calls than %d: %v", n+3, e)
		}
	}
}

func TestDown(t *testing.T) {
	for calls := range 5 {
		h := newHall(t, 8)
		h.commits(t, put("a", "ay"), put("b", "bee"))
		l, free := h.s.List(), h.s.Free()
		h.d.Limit(calls)
		if e := h.s.Commit([]api.Change{put("a", "again"), put("c", "sea"), drop("b")}); e != api.ErrDown {
			t.Fatalf("%v", e)
		}
		h.d.Limit(100) // the device is on again; the store isn't
		h.lists(t, l...)
		if h.s.Free() != free || h.c.Version() != 1 {
			t.Errorf("%d are free, version %d", h.s.Free(), h.c.Version())
		}
		h.has(t, map[string]string{"a": "ay", "b": "bee"})
		for range 3 {
			h.noCommit(t, api.ErrDown)
			h.noCommit(t, api.ErrDown, put("a", "again"))
			h.noCommit(t, api.ErrDown, drop("none"))
			h.noCommit(t, api.ErrDown, put("", ""))
		}
		h.d.Crash()
		h.noCommit(t, api.ErrDown, put("a", "again"))
		down := h.s
		h.hasOpened(t, map[string]string{"a": "ay", "b": "bee"})
		h.commits(t, put("a", "again"), drop("b"))
		h.hasOpened(t, map[string]string{"a": "again"})
		(&hall{h.d, h.v, h.c, down}).noCommit(t, api.ErrDown)
	}
}

func TestWrongCommitsDoNotLayItDown(t *testing.T) {
	h := newHall(t, 4)
	h.v.Destroy(api.Key{Tenant: 1})
	h.d.Limit(100)
	h.noCommit(t, api.ErrArg, put("", ""))
	h.noCommit(t, api.ErrNone, drop("a"))
	h.noCommit(t, api.ErrFull, numbered(0, 3)...)
	h.noCommit(t, api.ErrKey, under(api.Key{Tenant: 1}, "a", ""))
	h.d.Limit(5)
	h.commits(t, put("a", "ay"))
	h.hasOpened(t, map[string]string{"a": "ay"})
}

func TestCommitKeepsNotWhatItIsGiven(t *testing.T) {
	h := newHall(t, 8)
	room := []byte("body, and room behind")
	l := []api.Change{{Name: "b", Body: room[:4]}, {Name: "a", Body: room[4:5]}, put("behind", "")}
	was := fmt.Sprint(l)
	h.commits(t, l[:2]...)
	if fmt.Sprint(l) != was || string(room) != "body, and room behind" {
		t.Errorf("an argument is now %v, %q", l, room)
	}
	clear(room)
	clear(l)
	h.hasOpened(t, map[string]string{"b": "body", "a": ","})
	h.commits(t, put("c", "sea"))
	if fmt.Sprint(l) != fmt.Sprint(make([]api.Change, 3)) {
		t.Errorf("it is changed later on: %v", l)
	}
}

func TestCellThatAnotherStoreHasMovedOn(t *testing.T) {
	one := newHall(t, 8)
	one.commits(t, put("a", "ay"), put("b", "bee"))
	two := &hall{d: one.d, v: one.v, c: one.c}
	two.opens(t)
	two.commits(t, put("a", "of two"), put("c", "of two"))
	// The first knows nothing of it: its blobs are those that it had.
	one.has(t, map[string]string{"a": "ay", "b": "bee"})
	one.commits(t, put("d", "of one"))
	one.lists(t, blob("a", 0, 0, 0, 2, 1, 1, 2), blob("b", 0, 0, 0, 3, 2, 1, 3), blob("d", 0, 0, 0, 4, 7, 3, 6))
	one.has(t, map[string]string{"a": "ay", "b": "bee", "d": "of one"})
	// It has laid over a blob of the second, which is told.
	two.noGet(t, "a", api.ErrSeal)
	two.gets(t, "b", "bee")
	two.gets(t, "c", "of two")
	// What was committed last is what is opened.
	one.hasOpened(t, map[string]string{"a": "ay", "b": "bee", "d": "of one"})
	two.commits(t, drop("a"))
	two.hasOpened(t, map[string]string{"b": "bee", "c": "of two"})
	one.gets(t, "d", "of one")
}

func TestStoresBesideOneVault(t *testing.T) {
	one, two := newHall(t, 6), newHall(t, 6)
	two.v = one.v
	two.opens(t)
	one.commits(t, put("a", "of one"))
	two.commits(t, put("a", "of two"))
	one.commits(t, put("b", "of one"))
	for range 2 {
		one.has(t, map[string]string{"a": "of one", "b": "of one"})
		two.has(t, map[string]string{"a": "of two"})
		one.opens(t)
		two.opens(t)
	}
	// Blocks of one number, from one device to the other.
	for block := range 4 {
		mine, its := one.raw(t, block), two.raw(t, block)
		one.lays(t, block, its)
		two.lays(t, block, mine)
	}
	one.noGet(t, "a", api.ErrSeal)
	one.noGet(t, "b", api.ErrSeal)
	two.noGet(t, "a", api.ErrSeal)
	one.noOpen(t, api.ErrSeal)
	two.noOpen(t, api.ErrSeal)
}
