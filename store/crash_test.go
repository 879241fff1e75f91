package store

import (
	"bytes"
	"fmt"
	"maps"
	"math/rand"
	"slices"
	"testing"

	"strongroom/api"
)

// P9.5

// bitsOf answers the lowest bits of n as truths, the lowest first.
func bitsOf(n, count int) []bool {
	l := make([]bool, count)
	for i := range l {
		l[i] = n>>i&1 != 0
	}
	return l
}

// changed answers what blobs come to with changes.
func changed(had map[string]string, l []api.Change) map[string]string {
	now := maps.Clone(had)
	if now == nil {
		now = map[string]string{}
	}
	for _, x := range l {
		if x.Drop {
			delete(now, x.Name)
		} else {
			now[x.Name] = string(x.Body)
		}
	}
	return now
}

func TestCrashAtEachCall(t *testing.T) {
	first := []api.Change{put("a", "ay"), put("b", "bee"), put("c", "sea")}
	for _, had := range []int{0, 1, 2} { // so that the root stands on either block, or nowhere
		for _, l := range [][]api.Change{
			nil,
			{put("a", "new"), put("b", "newer")},
			{put("b", "new"), drop("a"), put("d", "dee"), drop("c")},
			{drop("a"), drop("b"), drop("c")},
		} {
			if had == 0 {
				l = slices.DeleteFunc(slices.Clone(l), func(x api.Change) bool { return x.Drop })
			}
			for calls := range laid(l) + 5 {
				for keep := range 64 {
					crashAt(t, first, had, l, calls, bitsOf(keep, 6))
				}
			}
		}
	}
}

// crashAt commits changes behind those that a store had, on a device that
// goes off behind so many calls, and on which other writes wait; then it
// crashes, and so it does when it is opened.
func crashAt(t *testing.T, first []api.Change, had int, l []api.Change, calls int, keep []bool) {
	t.Helper()
	h, want := newHall(t, 10), map[string]string(nil)
	for range had {
		h.commits(t, first...)
		want = changed(want, first)
	}
	h.d.Write(9, []byte("waits"))
	ahead := h.s
	h.d.Limit(calls)
	e := h.s.Commit(l)
	if ok := calls >= laid(l)+3; ok != (e == api.OK) || !ok && e != api.ErrDown {
		t.Fatalf("Commit that may make %d calls: %v", calls, e)
	}
	if e == api.OK {
		want = changed(want, l)
	}
	if calls <= laid(l)+3 && h.c.Version() > 0 {
		h.noOpen(t, api.ErrDown)
	}
	h.d.Crash(keep...)
	(&hall{h.d, h.v, h.c, ahead}).has(t, want)
	h.opens(t)
	h.hasOpened(t, want)
	h.d.Crash(keep...)
	h.hasOpened(t, want)
	next := []api.Change{put("a", "behind the crash"), put("e", "and more")}
	h.commits(t, next...)
	h.d.Crash()
	h.hasOpened(t, changed(want, next))
}

func TestCrashesOneBehindTheOther(t *testing.T) {
	const tries, ways = 3, 14 // off behind 0 to 6 calls, and all kept or nothing
	for way := range ways * ways * ways {
		h := newHall(t, 8)
		h.commits(t, put("a", "first"), put("b", "second"))
		want := map[string]string{"a": "first", "b": "second"}
		for i, left := 0, way; i < tries; i, left = i+1, left/ways {
			h.d.Limit(left % 7)
			l := []api.Change{put("a", fmt.Sprint("a ", i)), put("b", fmt.Sprint("b ", i))}
			if h.s.Commit(l) == api.OK {
				want = changed(want, l)
			}
			keep := left%ways >= 7
			h.d.Crash(keep, keep, keep, keep)
			h.opens(t)
			h.has(t, want)
		}
	}
}

func TestOffWithoutACrash(t *testing.T) {
	// What waits of a Commit that didn't come is kept by the next one's Sync,
	// ahead of what that one lays on the same blocks.
	for calls := range 5 {
		h := newHall(t, 6)
		h.commits(t, put("a", "ay"))
		h.d.Limit(calls)
		h.noCommitBut(t, put("a", "lost"), put("b", "lost"))
		h.d.Limit(100)
		h.hasOpened(t, map[string]string{"a": "ay"})
		h.commits(t, put("c", "sea"))
		h.hasOpened(t, map[string]string{"a": "ay", "c": "sea"})
		h.d.Crash()
		h.hasOpened(t, map[string]string{"a": "ay", "c": "sea"})
	}
}

// noCommitBut asks that a Commit finds the device off.
func (h *hall) noCommitBut(t *testing.T, l ...api.Change) {
	t.Helper()
	if e := h.s.Commit(l); e != api.ErrDown {
		t.Errorf("Commit: %v; want %v", e, api.ErrDown)
	}
}

func TestExample(t *testing.T) {
	for calls := range 6 {
		for keep := range 16 {
			h := newHall(t, 6)
			h.commits(t, put("a", "a ahead"), put("b", "b ahead"))
			h.d.Limit(calls)
			e := h.s.Commit([]api.Change{put("a", "a changed"), put("b", "b changed")})
			h.d.Crash(bitsOf(keep, 4)...)
			h.opens(t)
			if e == api.OK {
				h.has(t, map[string]string{"a": "a changed", "b": "b changed"})
			} else {
				h.has(t, map[string]string{"a": "a ahead", "b": "b ahead"})
			}
		}
	}
}

// history answers a hall on which blobs were laid, laid again and dropped,
// also by a Commit that didn't come, what it has, and all that ever stood on
// any block.
func history(t *testing.T) (*hall, map[string]string, [][]byte) {
	t.Helper()
	h, stood := newHall(t, 7), [][]byte{nil}
	look := func() {
		for i := range h.d.Blocks() {
			if b := h.raw(t, i); !slices.ContainsFunc(stood, func(x []byte) bool { return bytes.Equal(x, b) }) {
				stood = append(stood, b)
			}
		}
	}
	var want map[string]string
	for i, l := range [][]api.Change{
		{put("a", "same"), put("b", "same")},
		{put("a", "same"), put("c", "same")},
		{drop("b"), put("c", "other")},
		{put("a", "lost"), put("d", "lost")},
		{put("b", "same"), put("a", "same")},
	} {
		if i == 3 {
			h.d.Limit(4)
			h.noCommitBut(t, l...)
			h.d.Crash(true, true, true)
			h.opens(t)
		} else {
			h.commits(t, l...)
			want = changed(want, l)
		}
		look()
	}
	return h, want, stood
}

func TestBytesOfAnyBlockAndTimeLaidOnAnyBlock(t *testing.T) {
	h, want, stood := history(t)
	for block := range h.d.Blocks() {
		good := h.raw(t, block)
		for _, bad := range stood {
			if bytes.Equal(good, bad) {
				continue
			}
			h.lays(t, block, bad)
			h.laidOver(t, block, want)
			h.lays(t, block, good)
			h.hasOpened(t, want)
		}
	}
}

// laidOver asks for ErrSeal of the one blob, or the root, that stands on a
// block, and for all others what they are.
func (h *hall) laidOver(t *testing.T, block int, want map[string]string) {
	t.Helper()
	if block == h.c.Version()%2 {
		h.noOpen(t, api.ErrSeal)
	} else {
		h.opens(t)
	}
	for _, x := range h.s.List() {
		if x.Block == block {
			h.noGet(t, x.Name, api.ErrSeal)
		} else {
			h.gets(t, x.Name, want[x.Name])
		}
	}
}

func TestAnyBytesLaid(t *testing.T) {
	h, want, _ := history(t)
	for block := range h.d.Blocks() {
		good := h.raw(t, block)
		for i := range good {
			for bit := range 8 {
				bad := slices.Clone(good)
				bad[i] ^= 1 << bit
				h.lays(t, block, bad)
				h.laidOver(t, block, want)
			}
		}
		for n := range h.v.Sealed() + 20 {
			if bad := block16(n); !bytes.Equal(bad, good) {
				h.lays(t, block, bad)
				h.laidOver(t, block, want)
			}
		}
		h.lays(t, block, bytes.Repeat([]byte{0xff}, api.BlockSize))
		h.laidOver(t, block, want)
		h.lays(t, block, good)
		h.hasOpened(t, want)
	}
}

func TestLaidOverAndCommitted(t *testing.T) {
	// A Commit doesn't ask what stands on other blobs' blocks, and lays what
	// is new all the same.
	h, want, _ := history(t)
	block := h.s.List()[0].Block
	h.lays(t, block, []byte("another hand"))
	h.commits(t, put("d", "dee"))
	want["d"] = "dee"
	h.laidOver(t, block, want)
	h.commits(t, put("a", "anew"))
	want["a"] = "anew"
	h.hasOpened(t, want)
	for i := range h.d.Blocks() {
		h.lays(t, i, nil)
	}
	h.noOpen(t, api.ErrSeal)
	h.commits(t, put("a", "and anew"))
	h.opens(t)
	h.gets(t, "a", "and anew")
	h.noGet(t, "b", api.ErrSeal)
}

func TestBytesThatCameAgain(t *testing.T) {
	// The same body, name, key and block as ever: it is another page all the
	// same, and what stood there ahead isn't it.
	h := newHall(t, 4)
	seen := [][]byte{nil}
	for i := range 20 {
		h.commits(t, put("a", "the same"))
		block := h.s.List()[0].Block
		good := h.raw(t, block)
		for _, old := range seen {
			h.lays(t, block, old)
			h.noGet(t, "a", api.ErrSeal)
		}
		h.lays(t, block, good)
		h.gets(t, "a", "the same")
		if block != 2+i%2 {
			t.Errorf("block %d", block)
		}
		seen = append(seen, good)
	}
}

func TestAnotherHandAndACrash(t *testing.T) {
	for calls := range 6 {
		for block := range 6 {
			h := newHall(t, 6)
			h.commits(t, put("a", "ay"), put("b", "bee"))
			want := map[string]string{"a": "ay", "b": "bee"}
			l := []api.Change{put("b", "new"), put("a", "newer")}
			h.d.Limit(calls)
			if h.s.Commit(l) == api.OK {
				want = changed(want, l)
			}
			h.lays(t, block, []byte("another hand"))
			h.d.Crash(true, true, true)
			h.laidOver(t, block, want)
			h.s.Commit(nil)
		}
	}
}

// spot is what a random walk over one store comes to.
type spot struct {
	h     *hall
	want  map[string]string // of the last Commit that was OK
	stood [][]byte
	hands bool
}

func TestWhatWasCommittedLast(t *testing.T) {
	r := rand.New(rand.NewSource(9))
	for range 300 {
		p := spot{h: newHall(t, 4+r.Intn(10)), stood: [][]byte{nil}, hands: r.Intn(2) == 0}
		for i := range 50 {
			p.step(t, r, i)
			p.look(t)
		}
		p.h.d.Crash()
		p.look(t)
	}
}

// step commits some changes, limits the device, crashes, or lays bytes.
func (p *spot) step(t *testing.T, r *rand.Rand, i int) {
	t.Helper()
	h := p.h
	switch what := r.Intn(10); {
	case what < 6:
		var l []api.Change
		for name := range 6 {
			x := put(fmt.Sprint(name), fmt.Sprint("body ", i%7))
			_, there := p.want[x.Name]
			if x.Drop = there && r.Intn(3) == 0; r.Intn(2) == 0 {
				l = append(l, x)
			}
		}
		if h.s.Commit(l) == api.OK {
			p.want = changed(p.want, l)
		}
	case what < 7:
		h.d.Limit(r.Intn(12))
	case what < 9:
		h.d.Crash(bitsOf(r.Intn(256), 8)...)
	case p.hands:
		h.lays(t, r.Intn(h.d.Blocks()), p.stood[r.Intn(len(p.stood))])
	}
	if s, e := Open(h.d, h.v, h.c); e == api.OK {
		h.s = s
	} else if h.d.Beat() == api.OK && !(p.hands && e == api.ErrSeal) {
		t.Fatalf("Open: %v", e)
	}
	for at := range h.d.Blocks() {
		if b, e := h.d.Read(at); e == api.OK {
			p.stood = append(p.stood, b)
		}
	}
}

// look asks for what was committed last; or that the device is off; or, if
// there were other hands, for ErrSeal.
func (p *spot) look(t *testing.T) {
	t.Helper()
	l := p.h.s.List()
	if len(l) != len(p.want) || p.h.s.Free() != p.h.d.Blocks()-2-len(l) {
		t.Fatalf("%d blobs, %d free; want %d", len(l), p.h.s.Free(), len(p.want))
	}
	off := false
	if b, e := p.h.d.Read(0); e != api.OK {
		off = len(b) == 0
	}
	for _, x := range l {
		b, e := p.h.s.Get(x.Name)
		want, there := p.want[x.Name]
		switch {
		case there && e == api.OK && string(b) == want:
		case there && len(b) == 0 && (off && e == api.ErrDown || p.hands && e == api.ErrSeal):
		default:
			t.Fatalf("Get(%q): %q, %v; want %q", x.Name, b, e, want)
		}
	}
}
