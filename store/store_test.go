package store

import (
	"bytes"
	"fmt"
	"maps"
	"slices"
	"strings"
	"testing"

	"strongroom/api"
	"strongroom/device"
	"strongroom/page"
	"strongroom/root"
	"strongroom/vault"
)

// hall is a device, a vault and a cell that go together, and a store on them.
type hall struct {
	d *device.Device
	v *vault.Vault
	c *root.Cell
	s *Store
}

// newHall answers one of so many blocks, all new.
func newHall(t *testing.T, blocks int) *hall {
	t.Helper()
	d, e := device.New(blocks)
	if e != api.OK {
		t.Fatalf("New(%d): %v", blocks, e)
	}
	h := &hall{d: d, v: vault.New(), c: &root.Cell{}}
	h.opens(t)
	return h
}

// opens asks that the store is opened, again.
func (h *hall) opens(t *testing.T) {
	t.Helper()
	s, e := Open(h.d, h.v, h.c)
	if s == nil || e != api.OK {
		t.Fatalf("Open: %v, %v", s, e)
	}
	h.s = s
}

// noOpen asks that no store is opened, for this error.
func (h *hall) noOpen(t *testing.T, want api.Errno) {
	t.Helper()
	n, m := h.c.Version(), h.v.Sealed()
	if s, e := Open(h.d, h.v, h.c); s != nil || e != want {
		t.Errorf("Open: %v, %v; want %v", s, e, want)
	}
	if h.c.Version() != n || h.v.Sealed() != m {
		t.Errorf("Open has changed the cell or the vault")
	}
}

// put is a change that lays a blob, drop one that drops it.
func put(name, body string) api.Change { return api.Change{Name: name, Body: []byte(body)} }
func drop(name string) api.Change      { return api.Change{Name: name, Drop: true} }

// under is put with a key.
func under(k api.Key, name, body string) api.Change {
	return api.Change{Name: name, Key: k, Body: []byte(body)}
}

// commits asks that a Commit is OK: one more version, as many more sealed as
// blobs are laid and the root, and nothing that waits.
func (h *hall) commits(t *testing.T, l ...api.Change) {
	t.Helper()
	n, m := h.c.Version()+1, h.v.Sealed()+1+laid(l)
	if e := h.s.Commit(l); e != api.OK {
		t.Fatalf("Commit of %d changes: %v", len(l), e)
	}
	if h.c.Version() != n || h.v.Sealed() != m || h.d.Waiting() != 0 {
		t.Errorf("Commit of %d changes: version %d, %d are sealed, %d wait; want %d, %d, none", len(l), h.c.Version(), h.v.Sealed(), h.d.Waiting(), n, m)
	}
}

// laid answers how many blobs changes lay.
func laid(l []api.Change) int {
	n := 0
	for _, x := range l {
		if !x.Drop {
			n++
		}
	}
	return n
}

// noCommit asks that a Commit answers this error, and nothing has changed.
func (h *hall) noCommit(t *testing.T, want api.Errno, l ...api.Change) {
	t.Helper()
	was := h.all()
	if e := h.s.Commit(l); e != want {
		t.Errorf("Commit of %d changes, %.60v ..: %v; want %v", len(l), l, e, want)
	}
	if is := h.all(); is != was {
		t.Errorf("Commit of %d changes, that is wrong: %.200s; want %.200s", len(l), is, was)
	}
}

// all answers all that can be told of the hall.
func (h *hall) all() string {
	var s strings.Builder
	fmt.Fprint(&s, h.s.List(), h.s.Free(), h.c.Version(), h.v.Sealed(), h.d.Waiting())
	for i := range h.d.Blocks() {
		b, e := h.d.Read(i)
		fmt.Fprintf(&s, " %x %d", bytes.TrimRight(b, "\x00"), e)
	}
	for _, x := range h.s.List() {
		b, e := h.s.Get(x.Name)
		fmt.Fprintf(&s, " %x %d", b, e)
	}
	return s.String()
}

// has asks that the store has just these blobs.
func (h *hall) has(t *testing.T, want map[string]string) {
	t.Helper()
	var names []string
	for _, x := range h.s.List() {
		names = append(names, x.Name)
		if x.Size != len(want[x.Name]) {
			t.Errorf("%.40q has size %d; want %d", x.Name, x.Size, len(want[x.Name]))
		}
	}
	if !slices.Equal(names, slices.Sorted(maps.Keys(want))) {
		t.Fatalf("List: %.40q; want the names of %.40q", names, want)
	}
	for name, body := range want {
		h.gets(t, name, body)
	}
	if n := h.s.Free(); n != h.d.Blocks()-2-len(want) {
		t.Errorf("%d of %d blocks are free beside %d blobs", n, h.d.Blocks(), len(want))
	}
}

// hasOpened asks that the store has just these blobs, and opened again, too.
func (h *hall) hasOpened(t *testing.T, want map[string]string) {
	t.Helper()
	h.has(t, want)
	h.opens(t)
	h.has(t, want)
}

// lists asks that the store's blobs are just these.
func (h *hall) lists(t *testing.T, want ...api.Blob) {
	t.Helper()
	if l := h.s.List(); !slices.Equal(l, want) {
		t.Errorf("List: %v; want %v", l, want)
	}
}

// gets asks that a blob is this.
func (h *hall) gets(t *testing.T, name, want string) {
	t.Helper()
	if b, e := h.s.Get(name); e != api.OK || string(b) != want {
		t.Errorf("Get(%.40q): %.20q, %v; want %.20q", name, b, e, want)
	}
}

// noGet asks that no blob is got, for this error.
func (h *hall) noGet(t *testing.T, name string, want api.Errno) {
	t.Helper()
	if b, e := h.s.Get(name); len(b) != 0 || e != want {
		t.Errorf("Get(%.40q): %.20q, %v; want %v", name, b, e, want)
	}
}

// raw answers a block's bytes.
func (h *hall) raw(t *testing.T, block int) []byte {
	t.Helper()
	b, e := h.d.Read(block)
	if e != api.OK {
		t.Fatalf("the device's Read(%d): %v", block, e)
	}
	return b
}

// lays has another hand lay bytes on a block.
func (h *hall) lays(t *testing.T, block int, b []byte) {
	t.Helper()
	if e := h.d.Overwrite(block, b); e != api.OK {
		t.Fatalf("Overwrite(%d): %v", block, e)
	}
}

// roots puts a root of any bytes: not what a store would put.
func (h *hall) roots(t *testing.T, b []byte) {
	t.Helper()
	if e := root.Put(h.d, h.v, h.c, b); e != api.OK {
		t.Fatalf("Put: %v", e)
	}
}

// block16 answers the bytes of a block with a handle below 65536.
func block16(handle int) []byte {
	b := make([]byte, api.BlockSize)
	b[0], b[1] = byte(handle), byte(handle>>8)
	return b
}

// P9.2

func TestNewStore(t *testing.T) {
	for _, blocks := range []int{2, 3, 10, api.MaxBlocks} {
		h := newHall(t, blocks)
		h.hasOpened(t, nil)
		h.noGet(t, "a", api.ErrNone)
		h.noGet(t, "", api.ErrNone)
		if h.v.Sealed() != 0 || h.c.Version() != 0 {
			t.Errorf("Open has sealed something")
		}
	}
}

func TestNewCellOpensWhateverIsThere(t *testing.T) {
	h := newHall(t, 4)
	h.lays(t, 0, block16(1))
	h.lays(t, 1, []byte("another hand"))
	h.v.Destroy(api.Key{})
	h.opens(t)
	h.has(t, nil)
	h.d.Limit(0)
	h.opens(t)
	h.has(t, nil)
}

func TestOpenOfNil(t *testing.T) {
	h := newHall(t, 4)
	h.commits(t, put("a", "ay"))
	small, _ := device.New(1)
	off, _ := device.New(4)
	off.Limit(0)
	gone := vault.New()
	gone.Destroy(api.Key{})
	for _, x := range []hall{
		{nil, h.v, h.c, nil}, {h.d, nil, h.c, nil}, {h.d, h.v, nil, nil},
		{nil, nil, h.c, nil}, {nil, h.v, nil, nil}, {h.d, nil, nil, nil}, {nil, nil, nil, nil},
		{small, nil, h.c, nil}, {small, h.v, nil, nil}, {off, nil, h.c, nil}, {off, h.v, nil, nil}, {nil, gone, h.c, nil}, {h.d, gone, nil, nil},
	} {
		x.noOpen(t, api.ErrNil)
	}
	h.hasOpened(t, map[string]string{"a": "ay"})
}

func TestOpenOfOneBlock(t *testing.T) {
	h := newHall(t, 4)
	d, _ := device.New(1)
	for range 3 { // cells of version 0, 1 and 2: even where the root's block is there
		(&hall{d: d, v: h.v, c: h.c}).noOpen(t, api.ErrArg)
		d.Limit(0)
		(&hall{d: d, v: h.v, c: h.c}).noOpen(t, api.ErrArg)
		h.commits(t)
	}
	h.v.Destroy(api.Key{})
	(&hall{d: d, v: h.v, c: h.c}).noOpen(t, api.ErrArg)
}

func TestOpenHasTheErrorsOfTheRoot(t *testing.T) {
	for n := 1; n < 4; n++ {
		h := newHall(t, 4)
		for range n {
			h.commits(t, put("a", "ay"))
		}
		good := h.raw(t, n%2)
		h.d.Limit(0)
		h.noOpen(t, api.ErrDown)
		h.d.Limit(1)
		h.hasOpened(t, map[string]string{"a": "ay"})
		h.lays(t, n%2, nil)
		h.noOpen(t, api.ErrSeal)
		h.lays(t, n%2, h.raw(t, 1-n%2))
		h.noOpen(t, api.ErrSeal)
		h.lays(t, n%2, h.raw(t, 2))
		h.noOpen(t, api.ErrSeal)
		h.lays(t, n%2, good)
		h.hasOpened(t, map[string]string{"a": "ay"})
		h.v.Destroy(api.Key{})
		h.noOpen(t, api.ErrKey)
		other, _ := device.New(4)
		(&hall{d: other, v: h.v, c: h.c}).noOpen(t, api.ErrSeal)
		(&hall{d: h.d, v: vault.New(), c: h.c}).noOpen(t, api.ErrSeal)
	}
}

func TestRootThatIsNoDirectory(t *testing.T) {
	right := Directory(threeBlobs())
	for _, b := range [][]byte{nil, []byte("no directory"), {1}, right[:len(right)-1], append(slices.Clone(right), 0), Directory(many(1001)), Directory([]api.Blob{blob("b", 0, 0, 0, 2, 0, 0, 0), blob("a", 0, 0, 0, 3, 0, 0, 0)})} {
		h := newHall(t, 8)
		h.commits(t, put("a", "ay"))
		h.roots(t, b)
		h.noOpen(t, api.ErrForm)
		// The store that was opened ahead of it goes on.
		h.has(t, map[string]string{"a": "ay"})
		h.commits(t, put("b", "bee"))
		h.hasOpened(t, map[string]string{"a": "ay", "b": "bee"})
	}
}

func TestRootOfABlockThatIsNotThere(t *testing.T) {
	for _, blocks := range []int{2, 3, 5, 4095, api.MaxBlocks} {
		for _, block := range []int{2, 3, 4, 5, 6, 4094, 4095} {
			h := newHall(t, blocks)
			l := []api.Blob{blob("a", 0, 0, 0, block, 1, 1, 0)}
			h.roots(t, Directory(l))
			if block >= blocks {
				h.noOpen(t, api.ErrForm)
				continue
			}
			h.opens(t)
			h.lists(t, l...)
			if h.s.Free() != blocks-3 {
				t.Errorf("%d of %d are free", h.s.Free(), blocks)
			}
		}
	}
	h := newHall(t, 5)
	l := []api.Blob{blob("a", 0, 0, 0, 2, 1, 1, 0), blob("b", 0, 0, 0, 5, 1, 1, 0), blob("c", 0, 0, 0, 3, 1, 1, 0)}
	h.roots(t, Directory(l))
	h.noOpen(t, api.ErrForm)
	l[1].Block = 4
	h.roots(t, Directory(l))
	h.opens(t)
	h.lists(t, l...)
}

func TestOpenedWithWhatTheDirectorySays(t *testing.T) {
	h := newHall(t, api.MaxBlocks)
	h.roots(t, Directory(threeBlobs()))
	h.opens(t)
	h.lists(t, threeBlobs()...)
	if n := h.s.Free(); n != api.MaxBlocks-2-3 {
		t.Errorf("%d are free", n)
	}
	for _, x := range threeBlobs() {
		h.noGet(t, x.Name, api.ErrSeal)
	}
	// Blocks 2 and 4 are taken, so 3 is the next, then 5.
	h.commits(t, put("b", "bee"), put("c", "sea"))
	for name, block := range map[string]int{"b": 3, "c": 5} {
		i := slices.IndexFunc(h.s.List(), func(x api.Blob) bool { return x.Name == name })
		if x := h.s.List()[i]; x.Block != block {
			t.Errorf("%v; want block %d", x, block)
		}
	}
}

func TestOpenedAgain(t *testing.T) {
	h := newHall(t, 12)
	want := map[string]string{}
	for i := range 40 {
		name := fmt.Sprint("name ", i%7)
		if _, there := want[name]; there && i%3 == 0 {
			h.commits(t, drop(name))
			delete(want, name)
		} else {
			want[name] = fmt.Sprint("body ", i)
			h.commits(t, put(name, want[name]))
		}
		was, l := h.s, h.s.List()
		h.hasOpened(t, want)
		h.lists(t, l...)
		// The store ahead of it, if nobody changes anything, says the same.
		(&hall{h.d, h.v, h.c, was}).has(t, want)
	}
}

func TestOpenChangesNothing(t *testing.T) {
	h := newHall(t, 6)
	h.commits(t, put("a", "ay"))
	h.d.Write(5, []byte("waits"))
	h.d.Limit(1)
	was := h.all()
	for range 3 {
		h.opens(t)
	}
	if is := h.all(); is != was {
		t.Errorf("%s; want %s", is, was)
	}
	if e := h.d.Beat(); e != api.OK {
		t.Errorf("Open or Get was counted: %v", e)
	}
}

func TestListIsNewMemory(t *testing.T) {
	h := newHall(t, 8)
	h.commits(t, put("b", "bee"), put("a", "ay"), put("c", "sea"))
	want := slices.Clone(h.s.List())
	l, other := h.s.List(), h.s.List()
	clear(l[:cap(l)])
	h.lists(t, want...)
	_ = append(other[:1], blob("z", 9, 9, 9, 9, 9, 9, 9))
	h.lists(t, want...)
	h.has(t, map[string]string{"a": "ay", "b": "bee", "c": "sea"})
	kept := h.s.List()
	h.commits(t, drop("a"), put("b", "other"))
	if !slices.Equal(kept, want) {
		t.Errorf("an answer has changed: %v", kept)
	}
}

func TestNilStore(t *testing.T) {
	h := &hall{}
	h.lists(t)
	if h.s.Free() != 0 {
		t.Errorf("%d are free", h.s.Free())
	}
	for _, name := range []string{"", "a", strings.Repeat("n", 100)} {
		h.noGet(t, name, api.ErrNil)
	}
	for _, l := range [][]api.Change{nil, {}, {put("a", "ay")}, {drop("a")}, {put("", "")}, {put("a", ""), put("a", "")}, {{Name: "a", Body: make([]byte, api.MaxPlain+1)}}} {
		if e := h.s.Commit(l); e != api.ErrNil {
			t.Errorf("Commit of %d changes: %v", len(l), e)
		}
	}
}

// P9.3

func TestGet(t *testing.T) {
	h := newHall(t, 8)
	h.noGet(t, "a", api.ErrNone)
	h.commits(t, put("a", "ay"), put("A", ""), put("a\x00", "other"))
	h.has(t, map[string]string{"a": "ay", "A": "", "a\x00": "other"})
	for _, name := range []string{"", "b", "aa", "a\x00\x00", "\x00", strings.Repeat("a", 41), strings.Repeat("a", 1<<20)} {
		h.noGet(t, name, api.ErrNone)
	}
	h.commits(t, drop("a"))
	h.noGet(t, "a", api.ErrNone)
	h.gets(t, "a\x00", "other")
}

func TestErrorsOfGet(t *testing.T) {
	k := api.Key{Tenant: 1, Column: 2, Epoch: 3}
	h := newHall(t, 6)
	h.commits(t, under(k, "a", "ay"), put("b", "bee"))
	good := h.raw(t, 2)
	h.d.Limit(0)
	h.noGet(t, "a", api.ErrDown)
	h.noGet(t, "c", api.ErrNone)
	h.d.Crash()
	h.gets(t, "a", "ay")
	for _, bad := range [][]byte{nil, []byte("no handle, surely"[:16]), h.raw(t, 3), h.raw(t, 1), block16(9)} {
		h.lays(t, 2, bad)
		h.noGet(t, "a", api.ErrSeal)
		h.gets(t, "b", "bee")
	}
	h.v.Destroy(k)
	h.noGet(t, "a", api.ErrKey)
	h.lays(t, 2, nil)
	h.noGet(t, "a", api.ErrSeal) // without a handle nobody asks for the key
	h.lays(t, 2, good)
	h.noGet(t, "a", api.ErrKey)
	h.d.Limit(0)
	h.noGet(t, "a", api.ErrDown)
	h.noGet(t, "b", api.ErrDown)
	h.d.Limit(1)
	h.gets(t, "b", "bee")
	h.v.Destroy(api.Key{})
	h.noGet(t, "b", api.ErrKey)
}

func TestGetOfAnotherSize(t *testing.T) {
	h := newHall(t, 6)
	h.commits(t, put("a", "four"), put("b", ""))
	for _, size := range []int{0, 1, 3, 4, 5, api.MaxPlain} {
		l := h.s.List()
		l[0].Size = size
		h.roots(t, Directory(l))
		h.opens(t)
		h.lists(t, l...)
		if size == 4 {
			h.gets(t, "a", "four")
		} else {
			h.noGet(t, "a", api.ErrSeal)
		}
		h.gets(t, "b", "")
	}
}

func TestGetIsReadOfThePage(t *testing.T) {
	k := api.Key{Tenant: 1, Column: 2, Epoch: 3}
	h := newHall(t, 6)
	h.commits(t, under(k, "a", "ay"))
	p := h.s.List()[0].Page
	if p != (api.Page{Key: k, Id: 1, Version: 1}) {
		t.Fatalf("%v", p)
	}
	writes := func(p api.Page, block int, plain string) {
		t.Helper()
		if e := page.Write(h.d, h.v, block, p, []byte(plain)); e != api.OK {
			t.Fatal(e)
		}
	}
	good := h.raw(t, 2)
	for _, bad := range []api.Page{{Key: api.Key{Tenant: 1, Column: 2, Epoch: 4}, Id: 1, Version: 1}, {Key: api.Key{Tenant: 2, Column: 2, Epoch: 3}, Id: 1, Version: 1}, {Key: api.Key{Tenant: 1, Column: 1, Epoch: 3}, Id: 1, Version: 1}, {Key: k, Id: 2, Version: 1}, {Key: k, Id: 1, Version: 2}} {
		writes(bad, 2, "no")
		h.noGet(t, "a", api.ErrSeal)
	}
	writes(p, 2, "of another size")
	h.noGet(t, "a", api.ErrSeal)
	writes(p, 2, "ok")
	h.gets(t, "a", "ok")
	h.lays(t, 2, good)
	h.gets(t, "a", "ay")
}

func TestGetIsNewMemory(t *testing.T) {
	h := newHall(t, 4)
	h.commits(t, put("a", "some bytes"))
	b, _ := h.s.Get("a")
	other, _ := h.s.Get("a")
	clear(b[:cap(b)])
	h.gets(t, "a", "some bytes")
	grown := append(other, " and more"...)
	h.commits(t, put("a", "other"))
	if string(grown) != "some bytes and more" {
		t.Errorf("an answer has changed: %q", grown)
	}
}
