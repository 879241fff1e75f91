package device

import (
	"bytes"
	"math"
	"math/rand"
	"testing"

	"strongroom/api"
)

// made answers a device that New must give.
func made(t *testing.T, blocks int) *Device {
	t.Helper()
	d, e := New(blocks)
	if d == nil || e != api.OK {
		t.Fatalf("New(%d): %v, %v", blocks, d, e)
	}
	return d
}

// padded answers s with noughts behind it, as a block has it.
func padded(s string) []byte {
	b := make([]byte, api.BlockSize)
	copy(b, s)
	return b
}

// reads asks that block i has s and noughts.
func reads(t *testing.T, d *Device, i int, s string) {
	t.Helper()
	if b, e := d.Read(i); e != api.OK || !bytes.Equal(b, padded(s)) {
		t.Errorf("Read(%d): %q, %v; want %q", i, b, e, padded(s))
	}
}

// is asks that a call answered e.
func is(t *testing.T, what string, got, want api.Errno) {
	t.Helper()
	if got != want {
		t.Errorf("%s: %v, want %v", what, got, want)
	}
}

// down asks that each call that can find the device off does.
func down(t *testing.T, d *Device) {
	t.Helper()
	b, e := d.Read(0)
	if len(b) != 0 {
		t.Errorf("Read beside an error: %q", b)
	}
	is(t, "Read", e, api.ErrDown)
	is(t, "Write", d.Write(0, []byte("down")), api.ErrDown)
	is(t, "Sync", d.Sync(), api.ErrDown)
	is(t, "Beat", d.Beat(), api.ErrDown)
}

// waits asks that n writes aren't kept.
func waits(t *testing.T, d *Device, n int) {
	t.Helper()
	if got := d.Waiting(); got != n {
		t.Errorf("Waiting: %d, want %d", got, n)
	}
}

// P4.1

func TestNew(t *testing.T) {
	for _, n := range []int{1, 2, 3, 15, 16, 17, 4095, 4096} {
		d := made(t, n)
		if d.Blocks() != n {
			t.Errorf("New(%d).Blocks: %d", n, d.Blocks())
		}
		waits(t, d, 0)
		for i := range n {
			reads(t, d, i, "")
		}
	}
}

func TestNewWrong(t *testing.T) {
	for _, n := range []int{0, -1, -4096, 4097, 65536 + 1, 1<<32 + 1, math.MinInt, math.MaxInt} {
		if d, e := New(n); d != nil || e != api.ErrArg {
			t.Errorf("New(%d): %v, %v", n, d, e)
		}
	}
}

func TestTwoDevicesShareNothing(t *testing.T) {
	a, b := made(t, 2), made(t, 2)
	a.Write(0, []byte("a"))
	a.Overwrite(1, []byte("a"))
	a.Limit(0)
	reads(t, b, 0, "")
	reads(t, b, 1, "")
	waits(t, b, 0)
}

func TestBlocksStay(t *testing.T) {
	d := made(t, 3)
	see := func(what string) {
		t.Helper()
		if d.Blocks() != 3 {
			t.Errorf("Blocks behind %s: %d", what, d.Blocks())
		}
	}
	d.Write(2, []byte("a"))
	see("Write")
	d.Sync()
	see("Sync")
	d.Overwrite(0, nil)
	see("Overwrite")
	d.Limit(0)
	see("Limit")
	d.Crash()
	see("Crash")
}

func TestWaiting(t *testing.T) {
	d := made(t, 3)
	for n := range 5 {
		waits(t, d, n)
		is(t, "Write", d.Write(n%2, []byte("a")), api.OK)
	}
	waits(t, d, 5)
	d.Beat()
	d.Read(0)
	d.Limit(0)
	d.Write(2, nil)
	waits(t, d, 5)
	d.Limit(9)
	d.Write(3, nil)
	d.Write(0, make([]byte, 17))
	waits(t, d, 5)
	d.Overwrite(2, nil)
	waits(t, d, 5)
	d.Overwrite(1, nil)
	waits(t, d, 3)
	d.Sync()
	waits(t, d, 0)
	d.Write(0, nil)
	waits(t, d, 1)
	d.Crash()
	waits(t, d, 0)
	d.Write(0, nil)
	d.Write(0, nil)
	d.Crash(true, true)
	waits(t, d, 0)
}

// P4.2

func TestReadWrite(t *testing.T) {
	d := made(t, 4096)
	is(t, "Write", d.Write(0, []byte("first")), api.OK)
	is(t, "Write", d.Write(4095, []byte("last")), api.OK)
	reads(t, d, 0, "first")
	reads(t, d, 1, "")
	reads(t, d, 4094, "")
	reads(t, d, 4095, "last")
	is(t, "Sync", d.Sync(), api.OK)
	reads(t, d, 0, "first")
	reads(t, d, 4095, "last")
	d.Crash()
	reads(t, d, 0, "first")
	reads(t, d, 4095, "last")
}

func TestOneBlock(t *testing.T) {
	d := made(t, 1)
	is(t, "Write", d.Write(0, []byte("a")), api.OK)
	reads(t, d, 0, "a")
	is(t, "Write", d.Write(1, []byte("a")), api.ErrArg)
	is(t, "Overwrite", d.Overwrite(1, []byte("a")), api.ErrArg)
	if b, e := d.Read(1); len(b) != 0 || e != api.ErrArg {
		t.Errorf("Read(1): %q, %v", b, e)
	}
}

// lengths has bytes for each length that a block can take.
func lengths() []string {
	full := "0123456789abcdef"
	var list []string
	for n := range len(full) + 1 {
		list = append(list, full[:n])
	}
	return list
}

func TestNoughtsBehind(t *testing.T) {
	full := bytes.Repeat([]byte{0xff}, api.BlockSize)
	for _, s := range lengths() {
		d := made(t, 3)
		for i := range 3 {
			d.Write(i, full)
		}
		is(t, "Write", d.Write(1, []byte(s)), api.OK)
		reads(t, d, 1, s)
		d.Sync()
		d.Crash()
		reads(t, d, 1, s)
		d.Write(1, full)
		is(t, "Overwrite", d.Overwrite(1, []byte(s)), api.OK)
		reads(t, d, 1, s)
		d.Crash(true)
		reads(t, d, 1, s)
		reads(t, d, 0, string(full))
		reads(t, d, 2, string(full))
	}
}

func TestNilIsEmpty(t *testing.T) {
	for _, b := range [][]byte{nil, {}} {
		d := made(t, 2)
		d.Write(0, []byte("a"))
		d.Overwrite(1, []byte("a"))
		is(t, "Write", d.Write(0, b), api.OK)
		is(t, "Overwrite", d.Overwrite(1, b), api.OK)
		reads(t, d, 0, "")
		reads(t, d, 1, "")
	}
}

func TestWrongArguments(t *testing.T) {
	const blocks = 3
	places := []int{math.MinInt, -4096, -2, -1, blocks, blocks + 1, 4096, 1 << 32, math.MaxInt}
	long := []int{17, 18, 32, 272, 5000}
	d := made(t, blocks)
	for i := range blocks {
		d.Write(i, []byte("kept"))
	}
	d.Sync()
	d.Write(0, []byte("waits"))
	see := func() {
		t.Helper()
		reads(t, d, 0, "waits")
		reads(t, d, 1, "kept")
		reads(t, d, 2, "kept")
		waits(t, d, 1)
	}
	for _, i := range places {
		if b, e := d.Read(i); len(b) != 0 || e != api.ErrArg {
			t.Errorf("Read(%d): %q, %v", i, b, e)
		}
		for _, b := range [][]byte{nil, []byte("x"), make([]byte, 16), make([]byte, 17)} {
			is(t, "Write", d.Write(i, b), api.ErrArg)
			is(t, "Overwrite", d.Overwrite(i, b), api.ErrArg)
		}
		see()
	}
	for _, n := range long {
		for i := range blocks {
			is(t, "Write", d.Write(i, make([]byte, n)), api.ErrArg)
			is(t, "Overwrite", d.Overwrite(i, make([]byte, n)), api.ErrArg)
		}
		see()
	}
	d.Crash()
	for i := range blocks {
		reads(t, d, i, "kept")
	}
}

func TestErrArgAheadOfErrDown(t *testing.T) {
	d := made(t, 2)
	d.Limit(0)
	for _, i := range []int{-1, 2} {
		_, e := d.Read(i)
		is(t, "Read", e, api.ErrArg)
		is(t, "Write", d.Write(i, nil), api.ErrArg)
	}
	is(t, "Write", d.Write(0, make([]byte, 17)), api.ErrArg)
	down(t, d)
}

func TestLastWriteIsRead(t *testing.T) {
	d := made(t, 2)
	d.Overwrite(0, []byte("kept"))
	d.Write(0, []byte("one"))
	reads(t, d, 0, "one")
	d.Write(1, []byte("other"))
	reads(t, d, 0, "one")
	d.Write(0, []byte("two"))
	reads(t, d, 0, "two")
	d.Sync()
	reads(t, d, 0, "two")
	reads(t, d, 1, "other")
}

func TestSyncKeepsTheLastWrite(t *testing.T) {
	d := made(t, 3)
	for _, s := range []string{"one", "two", "three"} {
		d.Write(0, []byte(s))
		d.Write(2, []byte(s+s))
	}
	is(t, "Sync", d.Sync(), api.OK)
	waits(t, d, 0)
	d.Write(0, []byte("gone"))
	d.Crash()
	reads(t, d, 0, "three")
	reads(t, d, 1, "")
	reads(t, d, 2, "threethree")
}

func TestWritesBehindSyncWait(t *testing.T) {
	d := made(t, 2)
	d.Write(0, []byte("a"))
	d.Sync()
	d.Write(1, []byte("b"))
	d.Crash(true)
	reads(t, d, 0, "a")
	reads(t, d, 1, "b")
}

func TestOverwrite(t *testing.T) {
	d := made(t, 3)
	d.Write(0, []byte("a"))
	d.Write(1, []byte("b"))
	d.Write(0, []byte("c"))
	d.Write(2, []byte("d"))
	is(t, "Overwrite", d.Overwrite(0, []byte("z")), api.OK)
	waits(t, d, 2)
	reads(t, d, 0, "z")
	reads(t, d, 1, "b")
	reads(t, d, 2, "d")
	// The writes of block 0 have no place in keep any more.
	d.Crash(false, true)
	reads(t, d, 0, "z")
	reads(t, d, 1, "")
	reads(t, d, 2, "d")
}

func TestOverwriteThenSyncOrWrite(t *testing.T) {
	d := made(t, 2)
	d.Write(0, []byte("a"))
	d.Overwrite(0, []byte("z"))
	d.Sync()
	reads(t, d, 0, "z")
	d.Write(0, []byte("b"))
	reads(t, d, 0, "b")
	d.Crash()
	reads(t, d, 0, "z")
	d.Write(1, []byte("c"))
	d.Overwrite(0, nil)
	d.Crash(true)
	reads(t, d, 0, "")
	reads(t, d, 1, "c")
}

func TestOverwriteOfADeviceThatIsOff(t *testing.T) {
	d := made(t, 2)
	d.Write(0, []byte("a"))
	d.Write(1, []byte("b"))
	d.Limit(0)
	is(t, "Overwrite", d.Overwrite(0, []byte("z")), api.OK)
	is(t, "Overwrite", d.Overwrite(2, nil), api.ErrArg)
	is(t, "Overwrite", d.Overwrite(0, make([]byte, 17)), api.ErrArg)
	waits(t, d, 1)
	down(t, d)
	d.Crash(true)
	reads(t, d, 0, "z")
	reads(t, d, 1, "b")
}

func TestReadIsNewMemory(t *testing.T) {
	d := made(t, 2)
	d.Overwrite(0, []byte("kept"))
	d.Write(1, []byte("waits"))
	for i, s := range []string{"kept", "waits"} {
		b, _ := d.Read(i)
		again, _ := d.Read(i)
		whole := b[:cap(b)]
		for n := range whole {
			whole[n] = 0xee
		}
		reads(t, d, 1-i, []string{"waits", "kept"}[i])
		reads(t, d, i, s)
		if !bytes.Equal(again, padded(s)) {
			t.Errorf("two answers share memory: %q", again)
		}
	}
	d.Sync()
	reads(t, d, 0, "kept")
	reads(t, d, 1, "waits")
}

func TestReadAnswersStay(t *testing.T) {
	d := made(t, 1)
	d.Write(0, []byte("a"))
	b, _ := d.Read(0)
	d.Write(0, []byte("b"))
	d.Overwrite(0, []byte("c"))
	d.Crash()
	if !bytes.Equal(b, padded("a")) {
		t.Errorf("an answer has changed: %q", b)
	}
}

func TestArgumentsAreNotKept(t *testing.T) {
	d := made(t, 3)
	room := []byte("aaaaaaaaaaaaaaaabbbbbbbb")
	b := room[:4]
	d.Write(0, b)
	d.Write(1, b)
	d.Overwrite(2, b)
	if string(room) != "aaaaaaaaaaaaaaaabbbbbbbb" {
		t.Errorf("an argument has changed: %q", room)
	}
	for n := range room {
		room[n] = 'x'
	}
	reads(t, d, 0, "aaaa")
	reads(t, d, 2, "aaaa")
	d.Crash(true)
	reads(t, d, 0, "aaaa")
	reads(t, d, 1, "")
	d.Write(1, room[:3])
	room[0] = 'y'
	d.Sync()
	reads(t, d, 1, "xxx")
	d.Crash()
	reads(t, d, 1, "xxx")
}

// P4.3

func TestLimitCounts(t *testing.T) {
	calls := map[string]func(*Device) api.Errno{
		"Write": func(d *Device) api.Errno { return d.Write(1, []byte("a")) },
		"Sync":  (*Device).Sync,
		"Beat":  (*Device).Beat,
	}
	for name, call := range calls {
		for _, n := range []int{0, 1, 2, 3, 7} {
			d := made(t, 2)
			d.Write(0, []byte("ahead"))
			d.Beat()
			d.Limit(n)
			for range n {
				reads(t, d, 0, "ahead")
				is(t, name, call(d), api.OK)
			}
			is(t, name, call(d), api.ErrDown)
			down(t, d)
		}
	}
}

func TestLimitOfAllThree(t *testing.T) {
	d := made(t, 2)
	d.Limit(3)
	is(t, "Write", d.Write(0, []byte("a")), api.OK)
	is(t, "Sync", d.Sync(), api.OK)
	is(t, "Beat", d.Beat(), api.OK)
	down(t, d)
	waits(t, d, 0)
	d.Crash()
	reads(t, d, 0, "a")
}

func TestWhatIsNotCounted(t *testing.T) {
	d := made(t, 2)
	d.Limit(1)
	for range 5 {
		d.Read(0)
		d.Read(-1)
		d.Read(2)
		is(t, "Write", d.Write(2, nil), api.ErrArg)
		is(t, "Write", d.Write(-1, nil), api.ErrArg)
		is(t, "Write", d.Write(0, make([]byte, 17)), api.ErrArg)
		is(t, "Overwrite", d.Overwrite(0, nil), api.OK)
		is(t, "Overwrite", d.Overwrite(2, nil), api.ErrArg)
		d.Blocks()
		d.Waiting()
	}
	is(t, "Beat", d.Beat(), api.OK)
	down(t, d)
}

func TestLimitBelowNought(t *testing.T) {
	for _, n := range []int{0, -1, -2, -4096, math.MinInt} {
		d := made(t, 1)
		d.Write(0, []byte("a"))
		d.Limit(n)
		down(t, d)
		waits(t, d, 1)
		d.Crash(true)
		reads(t, d, 0, "a")
	}
}

func TestLimitInAnothersPlace(t *testing.T) {
	for _, first := range []int{math.MinInt, -1, 0, 1, 2, 5, math.MaxInt} {
		for _, second := range []int{0, 1, 2, 5} {
			d := made(t, 1)
			d.Limit(first)
			d.Beat()
			d.Limit(second)
			for range second {
				is(t, "Beat", d.Beat(), api.OK)
			}
			down(t, d)
		}
	}
}

func TestGreatLimit(t *testing.T) {
	d := made(t, 1)
	d.Limit(math.MaxInt)
	for range 1000 {
		is(t, "Beat", d.Beat(), api.OK)
	}
	reads(t, d, 0, "")
}

func TestNoLimitAtFirst(t *testing.T) {
	d := made(t, 1)
	for range 5000 {
		is(t, "Beat", d.Beat(), api.OK)
		is(t, "Write", d.Write(0, []byte("a")), api.OK)
		is(t, "Sync", d.Sync(), api.OK)
	}
}

func TestOffChangesNothing(t *testing.T) {
	d := made(t, 2)
	d.Write(0, []byte("kept"))
	d.Sync()
	d.Write(0, []byte("a"))
	d.Write(1, []byte("b"))
	d.Limit(0)
	down(t, d)
	waits(t, d, 2)
	d.Limit(9)
	reads(t, d, 0, "a")
	reads(t, d, 1, "b")
	d.Limit(0)
	down(t, d)
	d.Crash(false, true)
	reads(t, d, 0, "kept")
	reads(t, d, 1, "b")
}

func TestCrashTakesTheLimitAway(t *testing.T) {
	for _, n := range []int{-1, 0, 1, 3} {
		d := made(t, 1)
		d.Limit(n)
		d.Crash()
		for range 10 {
			is(t, "Beat", d.Beat(), api.OK)
			is(t, "Write", d.Write(0, nil), api.OK)
			is(t, "Sync", d.Sync(), api.OK)
		}
		reads(t, d, 0, "")
	}
}

func TestCrashOfTwoWritesOfOneBlock(t *testing.T) {
	cases := []struct {
		keep []bool
		want string
	}{
		{nil, "kept"},
		{[]bool{}, "kept"},
		{[]bool{false}, "kept"},
		{[]bool{true}, "a"},
		{[]bool{false, false}, "kept"},
		{[]bool{true, false}, "a"},
		{[]bool{false, true}, "b"},
		{[]bool{true, true}, "b"},
		{[]bool{false, false, true}, "kept"},
		{[]bool{true, false, true, true}, "a"},
		{[]bool{true, true, false, false}, "b"},
	}
	for _, c := range cases {
		for _, off := range []bool{false, true} {
			d := made(t, 1)
			d.Overwrite(0, []byte("kept"))
			d.Write(0, []byte("a"))
			d.Write(0, []byte("b"))
			if off {
				d.Limit(0)
			}
			d.Crash(c.keep...)
			reads(t, d, 0, c.want)
			waits(t, d, 0)
			d.Crash(true, true, true)
			reads(t, d, 0, c.want)
		}
	}
}

func TestExamples(t *testing.T) {
	for keep, want := range map[int]string{1: "a", 2: "b"} {
		d := made(t, 1)
		d.Write(0, []byte("a"))
		d.Write(0, []byte("b"))
		d.Crash([]bool{true, true}[:keep]...)
		reads(t, d, 0, want)
	}
}

func TestCrashOfSomeBlocks(t *testing.T) {
	d := made(t, 4)
	for i, s := range []string{"a", "b", "c", "d"} {
		d.Write(i, []byte(s))
	}
	d.Crash(true, false, true)
	for i, s := range []string{"a", "", "c", ""} {
		reads(t, d, i, s)
	}
}

func TestCrashLeavesKeepAlone(t *testing.T) {
	d := made(t, 1)
	room := []bool{true, false, true, true}
	d.Write(0, []byte("a"))
	d.Write(0, []byte("b"))
	d.Crash(room[:2]...)
	for n, k := range []bool{true, false, true, true} {
		if room[n] != k {
			t.Errorf("keep has changed: %v", room)
		}
	}
	// The device doesn't look at it later, nor behind its length.
	room[1] = true
	reads(t, d, 0, "a")
	d.Write(0, []byte("c"))
	d.Write(0, []byte("d"))
	d.Write(0, []byte("e"))
	d.Crash(room[:1]...)
	reads(t, d, 0, "c")
}

func TestNilDevice(t *testing.T) {
	var d *Device
	for _, i := range []int{math.MinInt, -1, 0, 1, math.MaxInt} {
		if b, e := d.Read(i); len(b) != 0 || e != api.ErrNil {
			t.Errorf("Read(%d): %q, %v", i, b, e)
		}
		for _, b := range [][]byte{nil, []byte("a"), make([]byte, 17)} {
			is(t, "Write", d.Write(i, b), api.ErrNil)
			is(t, "Overwrite", d.Overwrite(i, b), api.ErrNil)
		}
		d.Limit(i)
	}
	is(t, "Sync", d.Sync(), api.ErrNil)
	is(t, "Beat", d.Beat(), api.ErrNil)
	d.Crash()
	d.Crash(true, false)
	if d.Blocks() != 0 || d.Waiting() != 0 {
		t.Errorf("Blocks %d, Waiting %d", d.Blocks(), d.Waiting())
	}
}

// model is a device as the chapter's words tell it: each read goes over all
// writes that aren't kept.
type model struct {
	kept [][]byte
	at   []int
	with [][]byte
	left int // below 0: no limit
}

func newModel(blocks int) *model {
	m := &model{left: -1}
	for range blocks {
		m.kept = append(m.kept, padded(""))
	}
	return m
}

func (m *model) wrong(i int, b []byte) bool {
	return i < 0 || i >= len(m.kept) || len(b) > 16
}

func (m *model) read(i int) ([]byte, api.Errno) {
	if m.wrong(i, nil) {
		return nil, api.ErrArg
	}
	if m.left == 0 {
		return nil, api.ErrDown
	}
	b := m.kept[i]
	for n, at := range m.at {
		if at == i {
			b = m.with[n]
		}
	}
	return b, api.OK
}

func (m *model) beat() api.Errno {
	if m.left == 0 {
		return api.ErrDown
	}
	if m.left > 0 {
		m.left--
	}
	return api.OK
}

func (m *model) write(i int, b []byte) api.Errno {
	if m.wrong(i, b) {
		return api.ErrArg
	}
	e := m.beat()
	if e == api.OK {
		m.at, m.with = append(m.at, i), append(m.with, padded(string(b)))
	}
	return e
}

func (m *model) keepAll(keep func(n int) bool) {
	for n, at := range m.at {
		if keep(n) {
			m.kept[at] = m.with[n]
		}
	}
	m.at, m.with = nil, nil
}

func (m *model) sync() api.Errno {
	e := m.beat()
	if e == api.OK {
		m.keepAll(func(int) bool { return true })
	}
	return e
}

func (m *model) crash(keep []bool) {
	m.keepAll(func(n int) bool { return n < len(keep) && keep[n] })
	m.left = -1
}

func (m *model) overwrite(i int, b []byte) api.Errno {
	if m.wrong(i, b) {
		return api.ErrArg
	}
	var at []int
	var with [][]byte
	for n := range m.at {
		if m.at[n] != i {
			at, with = append(at, m.at[n]), append(with, m.with[n])
		}
	}
	m.at, m.with = at, with
	m.kept[i] = padded(string(b))
	return api.OK
}

// step does one call, told by four bytes, on both, and holds the answers
// against each other.
func step(t *testing.T, d *Device, m *model, s []byte) {
	t.Helper()
	i, b := int(s[1]%7)-1, bytes.Repeat(s[2:3], int(s[3]%18))
	switch s[0] % 10 {
	case 0, 1, 2, 3:
		is(t, "Write", d.Write(i, b), m.write(i, b))
	case 4:
		is(t, "Sync", d.Sync(), m.sync())
	case 5:
		is(t, "Beat", d.Beat(), m.beat())
	case 6:
		n := int(s[2]%12) - 2
		d.Limit(n)
		m.left = max(n, 0)
	case 7:
		var keep []bool
		for n := range s[1] % 12 {
			keep = append(keep, s[2+n/8]>>(n%8)&1 == 1)
		}
		d.Crash(keep...)
		m.crash(keep)
	default:
		is(t, "Overwrite", d.Overwrite(i, b), m.overwrite(i, b))
	}
	waits(t, d, len(m.at))
	for i := range 7 {
		got, e := d.Read(i - 1)
		want, f := m.read(i - 1)
		if e != f || !bytes.Equal(got, want) {
			t.Fatalf("Read(%d): %q, %v; want %q, %v", i-1, got, e, want, f)
		}
	}
}

func TestAsTheModel(t *testing.T) {
	r := rand.New(rand.NewSource(4))
	for range 300 {
		d, m := made(t, 5), newModel(5)
		for range 100 {
			s := make([]byte, 4)
			r.Read(s)
			step(t, d, m, s)
		}
		if t.Failed() {
			return
		}
	}
}

func FuzzAsTheModel(f *testing.F) {
	f.Add([]byte("\x00\x01a\x03\x00\x01b\x02\x07\x01\x01\x00"))
	f.Add([]byte("\x00\x02a\x10\x08\x02b\x01\x06\x00\x02\x00\x04\x00\x00\x00\x05\x00\x00\x00"))
	f.Fuzz(func(t *testing.T, b []byte) {
		d, m := made(t, 5), newModel(5)
		for ; len(b) >= 4; b = b[4:] {
			step(t, d, m, b[:4])
		}
	})
}
