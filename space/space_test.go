package space

import (
	"math"
	"math/rand"
	"testing"

	"strongroom/api"
)

// made answers a map that New must give.
func made(t *testing.T, blocks, reserved int) *Map {
	t.Helper()
	m, e := New(blocks, reserved)
	if m == nil || e != api.OK {
		t.Fatalf("New(%d, %d): %v, %v", blocks, reserved, m, e)
	}
	return m
}

// takes asks that block i is the next that is taken.
func takes(t *testing.T, m *Map, i int) {
	t.Helper()
	if got, ok := m.Take(); got != i || !ok {
		t.Errorf("Take: %d, %v; want %d", got, ok, i)
	}
}

// takesNone asks that there is none to take.
func takesNone(t *testing.T, m *Map) {
	t.Helper()
	if got, ok := m.Take(); got != 0 || ok {
		t.Errorf("Take: %d, %v; want none", got, ok)
	}
}

// marks asks what Mark answers.
func marks(t *testing.T, m *Map, i int, want bool) {
	t.Helper()
	if got := m.Mark(i); got != want {
		t.Errorf("Mark(%d): %v", i, got)
	}
}

// gives asks what Give answers.
func gives(t *testing.T, m *Map, i int, want bool) {
	t.Helper()
	if got := m.Give(i); got != want {
		t.Errorf("Give(%d): %v", i, got)
	}
}

// stands asks that of the blocks these are taken, told as a text of x (taken)
// and . (free), and that asking changes nothing.
func stands(t *testing.T, m *Map, want string) {
	t.Helper()
	for range 2 {
		free, got := 0, make([]byte, len(want))
		for i := range got {
			got[i] = 'x'
			if !m.Taken(i) {
				got[i] = '.'
				free++
			}
		}
		if string(got) != want || m.Free() != free {
			t.Errorf("blocks %.80s, Free %d; want %.80s", got, m.Free(), want)
		}
	}
}

// outside has numbers that no block of so many has.
func outside(blocks int) []int {
	return []int{
		math.MinInt, math.MinInt + 1, math.MinInt32, -api.MaxBlocks, -blocks, -blocks - 1, -2, -1,
		blocks, blocks + 1, 2*blocks + 1, api.MaxBlocks, api.MaxBlocks + 1, math.MaxInt32,
		1 << 32, 1<<32 + 1, math.MaxInt - 1, math.MaxInt,
	}
}

// P6.1

func TestNew(t *testing.T) {
	for _, blocks := range []int{1, 2, 3, 7, 8, 9, 63, 64, 65, 4095, 4096} {
		for _, reserved := range []int{0, 1, blocks / 2, blocks - 1, blocks} {
			m := made(t, blocks, reserved)
			if m.Free() != blocks-reserved {
				t.Errorf("New(%d, %d).Free: %d", blocks, reserved, m.Free())
			}
			for i := range blocks {
				if m.Taken(i) != (i < reserved) {
					t.Errorf("New(%d, %d).Taken(%d): %v", blocks, reserved, i, m.Taken(i))
				}
			}
			for _, i := range outside(blocks) {
				if m.Taken(i) {
					t.Errorf("New(%d, %d).Taken(%d)", blocks, reserved, i)
				}
			}
		}
	}
}

func TestNewWrong(t *testing.T) {
	wrong := [][2]int{
		{0, 0}, {0, 1}, {0, -1}, {-1, 0}, {-1, -1}, {-1, -2}, {-4096, 0},
		{4097, 0}, {4097, 1}, {4097, 4096}, {4097, 4097}, {4097, -1}, {65537, 0}, {1<<32 + 1, 0},
		{math.MinInt, 0}, {math.MaxInt, 0}, {math.MinInt, math.MinInt}, {math.MaxInt, math.MaxInt},
		{1, -1}, {1, 2}, {3, -1}, {3, 4}, {3, 1 << 32}, {3, math.MinInt}, {3, math.MaxInt},
		{4096, -1}, {4096, 4097}, {4096, math.MinInt}, {4096, math.MaxInt},
	}
	for _, x := range wrong {
		if m, e := New(x[0], x[1]); m != nil || e != api.ErrArg {
			t.Errorf("New(%d, %d): %v, %v", x[0], x[1], m, e)
		}
	}
}

func TestTwoMapsShareNothing(t *testing.T) {
	a, b := made(t, 4, 1), made(t, 4, 1)
	takes(t, a, 1)
	marks(t, a, 3, true)
	stands(t, b, "x...")
	takes(t, b, 1)
	gives(t, b, 1, true)
	stands(t, a, "xx.x")
}

func TestReservedForEver(t *testing.T) {
	m := made(t, 6, 3)
	for range 3 {
		for i := range 3 {
			gives(t, m, i, false)
			marks(t, m, i, false)
			gives(t, m, i, false)
		}
		takes(t, m, 3)
		takes(t, m, 4)
		takes(t, m, 5)
		takesNone(t, m)
		for i := range 3 {
			gives(t, m, i, false)
		}
		stands(t, m, "xxxxxx")
		takesNone(t, m)
		for i := 5; i >= 3; i-- {
			gives(t, m, i, true)
		}
		stands(t, m, "xxx...")
	}
}

func TestNoneReserved(t *testing.T) {
	m := made(t, 2, 0)
	takes(t, m, 0)
	takes(t, m, 1)
	gives(t, m, 0, true)
	stands(t, m, ".x")
	marks(t, m, 0, true)
	gives(t, m, 0, true)
	takes(t, m, 0)
	stands(t, m, "xx")
}

func TestOneReserved(t *testing.T) {
	m := made(t, 2, 1)
	gives(t, m, 0, false)
	takes(t, m, 1)
	gives(t, m, 1, true)
	gives(t, m, 0, false)
	stands(t, m, "x.")
}

func TestAllReserved(t *testing.T) {
	for _, blocks := range []int{1, 2, 5, 4096} {
		m := made(t, blocks, blocks)
		takesNone(t, m)
		for i := range blocks {
			marks(t, m, i, false)
			gives(t, m, i, false)
		}
		takesNone(t, m)
		if m.Free() != 0 || !m.Taken(0) || !m.Taken(blocks-1) {
			t.Errorf("%d blocks: Free %d", blocks, m.Free())
		}
	}
}

// P6.2

func TestExamples(t *testing.T) {
	m := made(t, 4, 2)
	takes(t, m, 2)
	takes(t, m, 3)
	takesNone(t, m)
	gives(t, m, 2, true)
	takes(t, m, 2)
}

func TestTakeTheLeast(t *testing.T) {
	m := made(t, 8, 1)
	takes(t, m, 1)
	takes(t, m, 2)
	marks(t, m, 4, true)
	marks(t, m, 3, true)
	takes(t, m, 5)
	stands(t, m, "xxxxxx..")
	gives(t, m, 4, true)
	gives(t, m, 1, true)
	gives(t, m, 3, true)
	stands(t, m, "x.x..x..")
	takes(t, m, 1)
	takes(t, m, 3)
	gives(t, m, 2, true)
	takes(t, m, 2)
	takes(t, m, 4)
	takes(t, m, 6)
	takes(t, m, 7)
	takesNone(t, m)
	stands(t, m, "xxxxxxxx")
}

func TestWholeMap(t *testing.T) {
	m := made(t, 4096, 2)
	for i := 2; i < 4096; i++ {
		if m.Free() != 4096-i {
			t.Fatalf("Free: %d; want %d", m.Free(), 4096-i)
		}
		takes(t, m, i)
	}
	takesNone(t, m)
	for i := 4095; i >= 2; i-- {
		gives(t, m, i, true)
		takes(t, m, i)
		gives(t, m, i, true)
	}
	if m.Free() != 4094 {
		t.Errorf("Free: %d", m.Free())
	}
	takes(t, m, 2)
}

func TestNoFreeBlock(t *testing.T) {
	m := made(t, 3, 1)
	takes(t, m, 1)
	marks(t, m, 2, true)
	for range 3 {
		takesNone(t, m)
		for i := range 3 {
			marks(t, m, i, false)
		}
		stands(t, m, "xxx")
	}
	gives(t, m, 2, true)
	takes(t, m, 2)
	takesNone(t, m)
}

func TestOneBlock(t *testing.T) {
	m := made(t, 1, 0)
	stands(t, m, ".")
	takes(t, m, 0)
	takesNone(t, m)
	marks(t, m, 0, false)
	stands(t, m, "x")
	gives(t, m, 0, true)
	gives(t, m, 0, false)
	marks(t, m, 0, true)
	takesNone(t, m)
	stands(t, m, "x")
}

func TestFirstAndLast(t *testing.T) {
	for _, blocks := range []int{2, 3, 4096} {
		m := made(t, blocks, 0)
		for _, i := range []int{0, blocks - 1} {
			gives(t, m, i, false)
			marks(t, m, i, true)
			marks(t, m, i, false)
			if !m.Taken(i) {
				t.Errorf("Taken(%d) of %d: false", i, blocks)
			}
			gives(t, m, i, true)
			gives(t, m, i, false)
			if m.Taken(i) || m.Free() != blocks {
				t.Errorf("Taken(%d) of %d: true, Free %d", i, blocks, m.Free())
			}
		}
		marks(t, m, blocks-1, true)
		for i := range blocks - 1 {
			takes(t, m, i)
		}
		takesNone(t, m)
	}
}

func TestTwice(t *testing.T) {
	m := made(t, 4, 1)
	marks(t, m, 2, true)
	marks(t, m, 2, false)
	stands(t, m, "x.x.")
	gives(t, m, 2, true)
	gives(t, m, 2, false)
	stands(t, m, "x...")
	takes(t, m, 1)
	marks(t, m, 1, false)
	gives(t, m, 1, true)
	gives(t, m, 1, false)
	gives(t, m, 3, false)
	stands(t, m, "x...")
}

func TestNoSuchBlock(t *testing.T) {
	m := made(t, 4, 1)
	marks(t, m, 2, true)
	for _, i := range outside(4) {
		marks(t, m, i, false)
		gives(t, m, i, false)
		if m.Taken(i) {
			t.Errorf("Taken(%d)", i)
		}
		marks(t, m, i, false)
		stands(t, m, "x.x.")
	}
	takes(t, m, 1)
	takes(t, m, 3)
	takesNone(t, m)
}

func TestCopy(t *testing.T) {
	m := made(t, 5, 1)
	marks(t, m, 2, true)
	c := m.Copy()
	if c == nil || c == m {
		t.Fatalf("Copy: %p of %p", c, m)
	}
	stands(t, c, "x.x..")
	takes(t, c, 1)
	gives(t, c, 2, true)
	marks(t, c, 4, true)
	stands(t, m, "x.x..")
	stands(t, c, "xx..x")
	marks(t, m, 3, true)
	stands(t, c, "xx..x")
	takes(t, m, 1)
	takes(t, m, 4)
	takesNone(t, m)
	stands(t, c, "xx..x")
	takes(t, c, 2)
	takes(t, c, 3)
	takesNone(t, c)
}

func TestCopyOfACopy(t *testing.T) {
	a := made(t, 4, 1)
	b := a.Copy()
	takes(t, b, 1)
	c := b.Copy()
	takes(t, c, 2)
	takes(t, a, 1)
	gives(t, a, 1, true)
	marks(t, a, 3, true)
	stands(t, a, "x..x")
	stands(t, b, "xx..")
	stands(t, c, "xxx.")
	gives(t, b, 1, true)
	stands(t, a, "x..x")
	stands(t, b, "x...")
	stands(t, c, "xxx.")
}

func TestCopyKeepsTheReserved(t *testing.T) {
	for _, reserved := range []int{0, 1, 2, 3} {
		c := made(t, 3, reserved).Copy().Copy()
		for i := range 3 {
			marks(t, c, i, i >= reserved)
			gives(t, c, i, i >= reserved)
		}
		for _, i := range outside(3) {
			marks(t, c, i, false)
			gives(t, c, i, false)
		}
		if c.Free() != 3-reserved {
			t.Errorf("Free: %d of 3, %d reserved", c.Free(), reserved)
		}
	}
}

func TestCopyOfAFullMap(t *testing.T) {
	m := made(t, 3, 1)
	takes(t, m, 1)
	takes(t, m, 2)
	c := m.Copy()
	takesNone(t, c)
	gives(t, m, 1, true)
	takesNone(t, c)
	takes(t, m, 1)
	gives(t, c, 2, true)
	takesNone(t, m)
	takes(t, c, 2)
}

func TestNilMap(t *testing.T) {
	var m *Map
	takesNone(t, m)
	for _, i := range append(outside(1), 0) {
		marks(t, m, i, false)
		gives(t, m, i, false)
		if m.Taken(i) {
			t.Errorf("Taken(%d)", i)
		}
	}
	if m.Free() != 0 {
		t.Errorf("Free: %d", m.Free())
	}
	if c := m.Copy(); c != nil {
		t.Errorf("Copy: %v", c)
	}
	takesNone(t, m)
}

// model is a map as the chapter's words tell it: a list of the free blocks'
// numbers, in no order, and whoever asks goes over all of it.
type model struct {
	blocks, reserved int
	free             []int
}

func modelOf(blocks, reserved int) *model {
	m := &model{blocks: blocks, reserved: reserved}
	for i := reserved; i < blocks; i++ {
		m.free = append(m.free, i)
	}
	return m
}

func (m *model) copied() *model {
	return &model{blocks: m.blocks, reserved: m.reserved, free: append([]int(nil), m.free...)}
}

func (m *model) isFree(i int) bool {
	for _, f := range m.free {
		if f == i {
			return true
		}
	}
	return false
}

func (m *model) taken(i int) bool {
	return 0 <= i && i < m.blocks && !m.isFree(i)
}

func (m *model) mark(i int) bool {
	was := m.isFree(i)
	var left []int
	for _, f := range m.free {
		if f != i {
			left = append(left, f)
		}
	}
	m.free = left
	return was
}

func (m *model) give(i int) bool {
	if !m.taken(i) || i < m.reserved {
		return false
	}
	m.free = append(m.free, i)
	return true
}

func (m *model) take() (int, bool) {
	if len(m.free) == 0 {
		return 0, false
	}
	least := m.free[0]
	for _, f := range m.free {
		least = min(least, f)
	}
	return least, m.mark(least)
}

// both is a map and its model.
type both struct {
	m    *Map
	want *model
}

// step does one call, told by two bytes, on one of the pairs, holds the
// answers against each other, and answers the pairs, a copy among them if it
// made one.
func step(t *testing.T, list []both, what, with byte) []both {
	t.Helper()
	at := int(what>>4) % len(list)
	b := list[at]
	i := int(with)%(b.want.blocks+4) - 2
	switch what % 8 {
	case 0, 1:
		n, ok := b.m.Take()
		if wn, wok := b.want.take(); n != wn || ok != wok {
			t.Fatalf("Take: %d, %v; want %d, %v", n, ok, wn, wok)
		}
	case 2, 3:
		if ok, want := b.m.Mark(i), b.want.mark(i); ok != want {
			t.Fatalf("Mark(%d): %v", i, ok)
		}
	case 7:
		c := both{m: b.m.Copy(), want: b.want.copied()}
		if len(list) == 4 {
			list[int(with)%4] = c
		} else {
			list = append(list, c)
		}
	default:
		if ok, want := b.m.Give(i), b.want.give(i); ok != want {
			t.Fatalf("Give(%d): %v", i, ok)
		}
	}
	return list
}

// alike asks that each map tells the same as its model.
func alike(t *testing.T, list []both) {
	t.Helper()
	for at, b := range list {
		if n := b.m.Free(); n != len(b.want.free) {
			t.Fatalf("map %d: Free %d; want %d", at, n, len(b.want.free))
		}
		for i := -2; i < b.want.blocks+2; i++ {
			if got, want := b.m.Taken(i), b.want.taken(i); got != want {
				t.Fatalf("map %d: Taken(%d): %v", at, i, got)
			}
		}
	}
}

func TestAsTheModel(t *testing.T) {
	r := rand.New(rand.NewSource(6))
	for range 300 {
		blocks := 1 + r.Intn(12)
		reserved := r.Intn(blocks + 1)
		list := []both{{m: made(t, blocks, reserved), want: modelOf(blocks, reserved)}}
		for range 120 {
			list = step(t, list, byte(r.Intn(256)), byte(r.Intn(256)))
			alike(t, list)
		}
	}
}

func FuzzAsTheModel(f *testing.F) {
	f.Add(byte(4), byte(2), []byte("\x00\x00\x00\x00\x00\x00\x04\x04\x00\x00"))
	f.Add(byte(8), byte(1), []byte("\x02\x05\x07\x00\x10\x00\x05\x05\x12\x05\x14\x06"))
	f.Fuzz(func(t *testing.T, n, r byte, b []byte) {
		blocks := 1 + int(n)
		reserved := int(r) % (blocks + 1)
		list := []both{{m: made(t, blocks, reserved), want: modelOf(blocks, reserved)}}
		for ; len(b) >= 2; b = b[2:] {
			list = step(t, list, b[0], b[1])
		}
		alike(t, list)
	})
}
