package store

import (
	"bytes"
	"encoding/binary"
	"math"
	"math/rand"
	"slices"
	"sort"
	"strings"
	"testing"

	"strongroom/api"
)

// blob answers one with these numbers, as the directory has them.
func blob(name string, tenant, column, epoch, block, id, version, size int) api.Blob {
	k := api.Key{Tenant: tenant, Column: column, Epoch: epoch}
	return api.Blob{Name: name, Key: k, Block: block, Page: api.Page{Key: k, Id: id, Version: version}, Size: size}
}

// threeBlobs answers some that are right, each number of another length.
func threeBlobs() []api.Blob {
	return []api.Blob{
		blob("a", 1, 2, 3, 4, 5, 6, 7),
		blob("a\x00", 0, 0, 0, api.MaxBlocks-1, 0, 0, 0),
		blob(strings.Repeat("\xff", api.MaxName), math.MaxInt, math.MaxInt, math.MaxInt, 2, math.MaxInt, math.MaxInt, api.MaxPlain),
	}
}

// parses asks that bytes are a directory of just these blobs.
func parses(t *testing.T, b []byte, want []api.Blob) {
	t.Helper()
	if l, ok := Parse(b); !ok || !slices.Equal(l, want) {
		t.Errorf("Parse(%.60x): %v, %v; want %v", b, l, ok, want)
	}
}

// noParse asks that bytes are no directory.
func noParse(t *testing.T, b []byte, why string) {
	t.Helper()
	if l, ok := Parse(b); ok || len(l) != 0 {
		t.Errorf("Parse(%.60x): %.3v, %v; %s", b, l, ok, why)
	}
}

// plainNumber reads a number as chapter 1 has it.
func plainNumber(b []byte) (int, []byte, bool) {
	u, n := binary.Uvarint(b)
	if n <= 0 || n > 1 && b[n-1] == 0 {
		return 0, nil, false
	}
	i := int(u / 2)
	if u%2 == 1 {
		i = -i - 1
	}
	return i, b[n:], true
}

// plainParse is Parse, told once more by other means.
func plainParse(b []byte) ([]api.Blob, bool) {
	count, n := binary.Uvarint(b)
	if n <= 0 || n > 1 && b[n-1] == 0 || count > api.MaxBlobs {
		return nil, false
	}
	b = b[n:]
	var l []api.Blob
	for range count {
		size, n := binary.Uvarint(b)
		if n <= 0 || n > 1 && b[n-1] == 0 || size < 1 || size > api.MaxName || size > uint64(len(b)-n) {
			return nil, false
		}
		name := string(b[n : n+int(size)])
		b = b[n+int(size):]
		var x [7]int
		for i := range x {
			var ok bool
			if x[i], b, ok = plainNumber(b); !ok || x[i] < 0 {
				return nil, false
			}
		}
		if x[3] < 2 || x[3] > 4095 || x[6] > 65536 {
			return nil, false
		}
		for _, other := range l {
			if other.Name >= name || other.Block == x[3] {
				return nil, false
			}
		}
		l = append(l, blob(name, x[0], x[1], x[2], x[3], x[4], x[5], x[6]))
	}
	return l, len(b) == 0
}

// asPlain asks that Parse answers what plainParse does, and that what is
// parsed is written in the same bytes.
func asPlain(t *testing.T, b []byte) {
	t.Helper()
	want, right := plainParse(b)
	if !right {
		noParse(t, b, "want none")
		return
	}
	parses(t, b, want)
	if again := Directory(want); !bytes.Equal(again, b) {
		t.Errorf("Directory(%v): %x; want %x", want, again, b)
	}
}

// P9.1

func TestDirectory(t *testing.T) {
	most := "\xfe\xff\xff\xff\xff\xff\xff\xff\xff\x01"  // 2^63-1
	least := "\xff\xff\xff\xff\xff\xff\xff\xff\xff\x01" // -2^63
	l := threeBlobs()
	all := "\x01a\x02\x04\x06\x08\x0a\x0c\x0e" +
		"\x02a\x00\x00\x00\x00\xfe\x3f\x00\x00\x00" +
		"\x28" + strings.Repeat("\xff", 40) + most + most + most + "\x04" + most + most + "\x80\x80\x08"
	for _, c := range []struct {
		l    []api.Blob
		want string
	}{
		{nil, "\x00"},
		{[]api.Blob{}, "\x00"},
		{[]api.Blob{{}}, "\x01\x00\x00\x00\x00\x00\x00\x00\x00"},
		{l, "\x03" + all},
		{l[:1], "\x01\x01a\x02\x04\x06\x08\x0a\x0c\x0e"},
		// In the order that they are given in, the same one twice, too.
		{[]api.Blob{{Name: "b"}, {Name: "a"}, {Name: "b"}}, "\x03\x01b\x00\x00\x00\x00\x00\x00\x00\x01a\x00\x00\x00\x00\x00\x00\x00\x01b\x00\x00\x00\x00\x00\x00\x00"},
		// The page's Key isn't told.
		{[]api.Blob{{Page: api.Page{Key: api.Key{Tenant: 1, Column: 2, Epoch: 3}}}}, "\x01\x00\x00\x00\x00\x00\x00\x00\x00"},
		{[]api.Blob{blob(strings.Repeat("n", 200), -1, -2, -3, -4, -5, -64, -65)}, "\x01\xc8\x01" + strings.Repeat("n", 200) + "\x01\x03\x05\x07\x09\x7f\x81\x01"},
		{[]api.Blob{blob("", math.MinInt, math.MaxInt, math.MinInt, math.MaxInt, math.MinInt, math.MaxInt, math.MinInt)}, "\x01\x00" + least + most + least + most + least + most + least},
	} {
		if b := Directory(c.l); string(b) != c.want {
			t.Errorf("Directory(%v): %x; want %x", c.l, b, c.want)
		}
	}
	if b := Directory(make([]api.Blob, 300)); string(b) != "\xac\x02"+strings.Repeat("\x00", 300*8) {
		t.Errorf("Directory of 300: %d bytes, %x ..", len(b), b[:9])
	}
}

func TestDirectoryIsNewMemory(t *testing.T) {
	l := threeBlobs()[:2:3]
	b := Directory(l)
	again := string(b)
	clear(b[:cap(b)])
	if string(Directory(l)) != again || !slices.Equal(l[:3], threeBlobs()) {
		t.Errorf("Directory has changed what it was given, or keeps its answer")
	}
	one, ok := Parse([]byte(again))
	clear(one[:cap(one)])
	if !ok {
		t.Errorf("%x is no directory", again)
	}
	parses(t, []byte(again), threeBlobs()[:2])
}

func TestParse(t *testing.T) {
	l := threeBlobs()
	for n := range len(l) + 1 {
		parses(t, Directory(l[:n]), l[:n])
		parses(t, Directory(l[n:]), l[n:])
	}
	parses(t, []byte{0}, nil)
	room := append(Directory(l), "and room behind"...)
	with := string(room)
	got, _ := Parse(room[:len(room)-15])
	if string(room) != with {
		t.Errorf("Parse has changed its argument")
	}
	clear(room)
	if !slices.Equal(got, l) {
		t.Errorf("Parse keeps its argument: %v", got)
	}
}

func TestParseGivesThePageTheBlobsKey(t *testing.T) {
	x := blob("a", 1, 2, 3, 4, 5, 6, 7)
	other := x
	other.Page.Key = api.Key{Tenant: 9, Column: 9, Epoch: 9}
	parses(t, Directory([]api.Blob{other}), []api.Blob{x})
	other.Page.Key = api.Key{Tenant: -1}
	parses(t, Directory([]api.Blob{other}), []api.Blob{x})
}

func TestNamesOfParse(t *testing.T) {
	for n := range 300 {
		l := []api.Blob{blob(strings.Repeat("n", n), 0, 0, 0, 2, 0, 0, 0)}
		if n >= 1 && n <= 40 {
			parses(t, Directory(l), l)
		} else {
			noParse(t, Directory(l), "a name that isn't right")
		}
	}
	// Any bytes, and byte by byte, not letter by letter.
	var names []string
	for x := range 256 {
		names = append(names, string([]byte{byte(x)}), string([]byte{byte(x), 0}), string([]byte{byte(x), 0xff}), string([]byte{'m', byte(x)}))
	}
	sort.Strings(names)
	names = slices.Compact(names)
	var l []api.Blob
	for i, s := range names[:api.MaxBlobs] {
		l = append(l, blob(s, 0, 0, 0, 2+i, 0, 0, 0))
	}
	parses(t, Directory(l), l)
	for i := range 700 {
		two := []api.Blob{l[i], l[i+1]}
		parses(t, Directory(two), two)
		noParse(t, Directory([]api.Blob{two[1], two[0]}), "names that fall")
		two[1].Name = two[0].Name
		noParse(t, Directory(two), "a name twice")
	}
	three := []api.Blob{l[5], l[7], l[6]}
	noParse(t, Directory(three), "names that don't all rise")
	three = []api.Blob{l[5], l[6], l[5]}
	three[2].Block = 3000
	noParse(t, Directory(three), "the first name at the end again")
}

func TestNumbersOfParse(t *testing.T) {
	numbers := []int{math.MinInt, math.MinInt + 1, -1 << 32, -4096, -2, -1, 0, 1, 2, 3, 63, 64, 4094, 4095, 4096, 4097, 8191, 8192, 65535, 65536, 65537, 1 << 32, 1<<32 + 2, math.MaxInt - 1, math.MaxInt}
	for at := range 7 {
		for _, n := range numbers {
			x := [7]int{1, 2, 3, 4, 5, 6, 7}
			x[at] = n
			l := []api.Blob{blob("b", x[0], x[1], x[2], x[3], x[4], x[5], x[6])}
			right := n >= 0
			switch at {
			case 3:
				right = n >= 2 && n < 4096
			case 6:
				right = n >= 0 && n <= 65536
			}
			for _, l := range [][]api.Blob{l, {blob("a", 0, 0, 0, 9, 0, 0, 0), l[0]}, {l[0], blob("c", 0, 0, 0, 9, 0, 0, 0)}} {
				if right {
					parses(t, Directory(l), l)
				} else {
					noParse(t, Directory(l), "a number that may not be")
				}
			}
		}
	}
}

func TestTwoBlobsOnOneBlock(t *testing.T) {
	l := threeBlobs()
	for i := range l {
		for j := range i {
			bad := slices.Clone(l)
			bad[i].Block = bad[j].Block
			noParse(t, Directory(bad), "two on one block")
		}
	}
}

// many answers so many blobs that are right.
func many(n int) []api.Blob {
	l := make([]api.Blob, n)
	for i := range l {
		l[i] = blob(string([]byte{byte(i >> 8), byte(i)}), 1, i, 0, 2+i, i, n, i)
	}
	return l
}

func TestHowManyParseTakes(t *testing.T) {
	for _, n := range []int{0, 1, 127, 128, 999, 1000} {
		parses(t, Directory(many(n)), many(n))
	}
	for _, n := range []int{1001, 1002, 2000, 4094} {
		noParse(t, Directory(many(n)), "too many")
	}
	// A count alone, or one that tells of more or fewer than there are.
	behind := Directory(threeBlobs())[1:]
	for _, count := range []string{"\x00", "\x02", "\x04", "\x7f", "\xe8\x07", "\xe9\x07", "\xff\xff\xff\xff\x0f", "\xff\xff\xff\xff\xff\xff\xff\xff\x7f", "\xff\xff\xff\xff\xff\xff\xff\xff\xff\x01", "\xff\xff\xff\xff\xff\xff\xff\xff\xff\x02", "\x83\x00", "\x83\x80\x00", ""} {
		noParse(t, append([]byte(count), behind...), "another count")
		if count != "\x00" {
			noParse(t, []byte(count), "a count alone")
		}
	}
	// More bytes than a page may have are a directory all the same.
	l := many(api.MaxBlobs)
	for i := range l {
		l[i].Name += strings.Repeat("n", 38)
		l[i].Key = api.Key{Tenant: math.MaxInt, Column: math.MaxInt, Epoch: math.MaxInt}
		l[i].Page.Key = l[i].Key
	}
	if b := Directory(l); len(b) <= api.MaxPlain {
		t.Errorf("%d bytes", len(b))
	}
	parses(t, Directory(l), l)
}

func TestNearlyADirectory(t *testing.T) {
	for _, l := range [][]api.Blob{nil, threeBlobs()[:1], threeBlobs(), many(3)} {
		b := Directory(l)
		for n := range b {
			noParse(t, b[:n], "cut short")
		}
		for x := range 256 {
			noParse(t, append(slices.Clone(b), byte(x)), "one byte more")
		}
		noParse(t, append(slices.Clone(b), b...), "twice")
		for i := range b {
			for x := range 256 {
				bad := slices.Clone(b)
				bad[i] = byte(x)
				asPlain(t, bad)
				asPlain(t, slices.Insert(slices.Clone(b), i, byte(x)))
			}
			asPlain(t, slices.Delete(slices.Clone(b), i, i+1))
		}
	}
	noParse(t, nil, "nothing")
	noParse(t, []byte{}, "nothing")
}

func TestNumbersInALongerForm(t *testing.T) {
	b := Directory(threeBlobs()[:1]) // each number is one byte
	for i := range b {
		if i == 2 {
			continue // the name
		}
		long := slices.Insert(slices.Clone(b), i+1, 0)
		long[i] |= 0x80
		noParse(t, long, "a number in a longer form")
	}
}

func TestParseAnyBytes(t *testing.T) {
	r := rand.New(rand.NewSource(9))
	for range 200000 {
		b := make([]byte, r.Intn(30))
		for i := range b {
			b[i] = byte(r.Intn(6) * r.Intn(3))
		}
		asPlain(t, b)
	}
}

func FuzzParse(f *testing.F) {
	f.Add([]byte("\x00"))
	f.Add(Directory(threeBlobs()))
	f.Add(Directory(many(5)))
	f.Fuzz(asPlain)
}
