package store

import (
	"fmt"
	"maps"
	"math/rand"
	"slices"
	"strings"
	"testing"

	"strongroom/api"
	"strongroom/device"
	"strongroom/root"
	"strongroom/vault"
)

// body is a blob of the model, with its bytes.
type body struct {
	blob  api.Blob
	plain string
}

// plainStore is the model of a store, plainCell of a cell: what its root has.
type plainStore struct {
	cell  int
	blobs map[string]body
	down  bool
}

type plainCell struct {
	version, mark int
	blobs         map[string]body
}

// both is stores on one device and two cells, and the model of them. What
// stands on a block, the model asks of the device.
type both struct {
	d      *device.Device
	v      *vault.Vault
	cells  []*root.Cell
	stores []*Store
	roots  []plainCell
	plain  []plainStore
	sealed int
	gone   map[api.Key]bool
	left   int // calls till the device is off, below 0 without a limit
}

func newBoth(t *testing.T, blocks int) *both {
	t.Helper()
	b := &both{v: vault.New(), roots: make([]plainCell, 2), gone: map[api.Key]bool{}, left: -1}
	b.d = newHall(t, blocks).d
	for range b.roots {
		b.cells = append(b.cells, &root.Cell{})
	}
	for i := range 3 { // the first two on one cell
		s, e := Open(b.d, b.v, b.cells[i/2])
		if e != api.OK {
			t.Fatal(e)
		}
		b.stores = append(b.stores, s)
		b.plain = append(b.plain, plainStore{cell: i / 2})
	}
	return b
}

// call does so many calls on the model's device, and answers whether it
// wasn't off ahead of one of them.
func (b *both) call() bool {
	if b.left == 0 {
		return false
	}
	b.left--
	return true
}

// page answers what a read of a page must answer: every page's handle is its
// Id.
func (b *both) page(block int, p api.Page) api.Errno {
	raw, e := b.d.Read(block)
	if e != api.OK {
		return e
	}
	if h := int(raw[0]) | int(raw[1])<<8; h == 0 || string(raw) != string(block16(h)) {
		return api.ErrSeal
	}
	if b.gone[p.Key] {
		return api.ErrKey
	}
	if string(raw) != string(block16(p.Id)) {
		return api.ErrSeal
	}
	return api.OK
}

// open does so on the model; with an error the store stays.
func (b *both) open(i, cell int) api.Errno {
	c := b.roots[cell]
	if c.version > 0 {
		if e := b.page(c.version%2, api.Page{Id: c.mark, Version: c.version}); e != api.OK {
			return e
		}
	}
	b.plain[i] = plainStore{cell: cell, blobs: maps.Clone(c.blobs)}
	return api.OK
}

// free answers the free blocks of a model's store, rising.
func (b *both) free(s plainStore) []int {
	var l []int
	for i := 2; i < b.d.Blocks(); i++ {
		taken := false
		for _, x := range s.blobs {
			taken = taken || x.blob.Block == i
		}
		if !taken {
			l = append(l, i)
		}
	}
	return l
}

// wrong answers what is wrong with changes, told once more.
func (b *both) wrong(s plainStore, l []api.Change) api.Errno {
	for i, x := range l {
		twice := slices.ContainsFunc(l[:i], func(y api.Change) bool { return y.Name == x.Name })
		if x.Name == "" || len(x.Name) > 40 || twice || min(x.Key.Tenant, x.Key.Column, x.Key.Epoch) < 0 || len(x.Body) > 65536 {
			return api.ErrArg
		}
	}
	for _, x := range l {
		if _, there := s.blobs[x.Name]; x.Drop && !there {
			return api.ErrNone
		}
	}
	if laid(l) > len(b.free(s)) {
		return api.ErrFull
	}
	for _, x := range l {
		if !x.Drop && b.gone[x.Key] {
			return api.ErrKey
		}
	}
	return api.OK
}

// commit does so on the model.
func (b *both) commit(i int, l []api.Change) api.Errno {
	s := &b.plain[i]
	if s.down {
		return api.ErrDown
	}
	if e := b.wrong(*s, l); e != api.OK {
		return e
	}
	c := &b.roots[s.cell]
	next, free := maps.Clone(s.blobs), b.free(*s)
	if next == nil {
		next = map[string]body{}
	}
	s.down = true
	for _, x := range l {
		if x.Drop {
			delete(next, x.Name)
			continue
		}
		b.sealed++
		if !b.call() {
			return api.ErrDown
		}
		next[x.Name] = body{api.Blob{Name: x.Name, Key: x.Key, Block: free[0], Page: api.Page{Key: x.Key, Id: b.sealed, Version: c.version + 1}, Size: len(x.Body)}, string(x.Body)}
		free = free[1:]
	}
	if b.gone[api.Key{}] {
		return api.ErrKey
	}
	b.sealed++
	mark := b.sealed
	for range 3 {
		if !b.call() {
			return api.ErrDown
		}
	}
	*c = plainCell{c.version + 1, mark, next}
	s.blobs, s.down = maps.Clone(next), false
	return api.OK
}

// changesOf answers changes that two bytes tell, some of them wrong.
func (b *both) changesOf(i int, x, y byte) []api.Change {
	var l []api.Change
	for n := range 5 {
		if x>>n&1 == 0 {
			continue
		}
		c := api.Change{Name: string(rune('e' - n)), Key: api.Key{Tenant: int(y>>4) % 3}, Body: []byte(strings.Repeat("b", b.sealed%5))}
		_, there := b.plain[i].blobs[c.Name]
		c.Drop = there && y>>n&1 == 1 || y == 7
		l = append(l, c)
	}
	if len(l) == 0 {
		return l
	}
	switch last := &l[len(l)-1]; y {
	case 0xf0:
		last.Name = ""
	case 0xf1:
		last.Name = strings.Repeat("n", 41)
	case 0xf2:
		last.Key.Epoch = -1
	case 0xf3:
		last.Body = make([]byte, api.MaxPlain+1)
	case 0xf4:
		l = append(l, l[0])
	case 0xf5:
		last.Name = strings.Repeat("n", 40)
	}
	return l
}

// step does one call, told by three bytes, on both, and holds the answers
// against each other.
func (b *both) step(t *testing.T, what, x, y byte) {
	t.Helper()
	i := int(what>>4) % len(b.stores)
	switch what % 16 {
	default:
		l := b.changesOf(i, x, y)
		if e, want := b.stores[i].Commit(l), b.commit(i, l); e != want {
			t.Fatalf("Commit of %.200v: %v; want %v", l, e, want)
		}
	case 9, 10:
		cell := int(x) % len(b.cells)
		s, e := Open(b.d, b.v, b.cells[cell])
		if want := b.open(i, cell); e != want || (s == nil) != (want != api.OK) {
			t.Fatalf("Open: %v, %v; want %v", s, e, want)
		}
		if s != nil {
			b.stores[i] = s
		}
	case 11:
		b.d.Limit(int(x % 12))
		b.left = int(x % 12)
	case 12:
		b.d.Crash(bitsOf(int(x), 8)...)
		b.left = -1
	case 13, 14: // what was sealed at any time, or no handle
		if bad := block16(int(y) % (b.sealed + 2)); x >= 0x80 {
			b.d.Overwrite(int(x)%b.d.Blocks(), bad)
		} else if x < 0x10 {
			b.d.Overwrite(int(x)%b.d.Blocks(), append(bad[:8], y|1))
		}
	case 15:
		if k := (api.Key{Tenant: int(y) % 3}); x%16 == 0 && (k != api.Key{} || y < 0x20) {
			b.v.Destroy(k)
			b.gone[k] = true
		} else if _, e := b.v.Seal(api.Key{Tenant: 9}, "", nil); e == api.OK {
			b.sealed++
		}
	}
}

// alike asks that each store says the same.
func (b *both) alike(t *testing.T) {
	t.Helper()
	if n := b.v.Sealed(); n != b.sealed {
		t.Fatalf("%d are sealed; want %d", n, b.sealed)
	}
	for i, c := range b.cells {
		if c.Version() != b.roots[i].version {
			t.Fatalf("cell %d has version %d; want %d", i, c.Version(), b.roots[i].version)
		}
	}
	for i, s := range b.stores {
		p := b.plain[i]
		var want []api.Blob
		for _, name := range slices.Sorted(maps.Keys(p.blobs)) {
			want = append(want, p.blobs[name].blob)
		}
		if l := s.List(); !slices.Equal(l, want) || s.Free() != len(b.free(p)) {
			t.Fatalf("store %d: %v, %d free; want %v, %d", i, l, s.Free(), want, len(b.free(p)))
		}
		for _, name := range []string{"a", "b", "c", "d", "e", strings.Repeat("n", 40), "none"} {
			x, there := p.blobs[name]
			plain, we := "", api.ErrNone
			if there {
				if we = b.page(x.blob.Block, x.blob.Page); we == api.OK {
					plain = x.plain
				}
			}
			if got, e := s.Get(name); string(got) != plain || e != we {
				t.Fatalf("store %d, Get(%.9q): %q, %v; want %q, %v", i, name, got, e, plain, we)
			}
		}
	}
}

func TestAsTheModel(t *testing.T) {
	r := rand.New(rand.NewSource(9))
	seen := map[string]int{}
	for range 600 {
		b := newBoth(t, 4+r.Intn(12))
		for range 80 {
			b.step(t, byte(r.Intn(256)), byte(r.Intn(256)), byte(r.Intn(256)))
			b.alike(t)
		}
		for i, s := range b.stores {
			for _, x := range s.List() {
				_, e := s.Get(x.Name)
				seen[fmt.Sprint(b.plain[i].down, e)]++
			}
		}
	}
	// The walk comes by all that may be, else it would tell little.
	for _, e := range []api.Errno{api.OK, api.ErrDown, api.ErrKey, api.ErrSeal} {
		for _, down := range []bool{false, true} {
			if seen[fmt.Sprint(down, e)] == 0 {
				t.Errorf("no Get of a store that is down (%v) with %v: %v", down, e, seen)
			}
		}
	}
}

func FuzzAsTheModel(f *testing.F) {
	f.Add([]byte("\x00\x07\x00\x10\x03\x10\x00\x05\xff\x0b\x02\x00\x00\x07\x00\x0c\x0f\x00\x09\x00\x00\x00\x1f\x20"))
	f.Add([]byte("\x00\x07\x00\x20\x07\x00\x09\x00\x00\x0d\x82\x03\x0d\x81\x02\x0f\x00\x01\x00\x01\x10\x00\x01\xf4"))
	f.Fuzz(func(t *testing.T, s []byte) {
		b := newBoth(t, 8)
		for ; len(s) >= 3; s = s[3:] {
			b.step(t, s[0], s[1], s[2])
		}
		b.alike(t)
	})
}
