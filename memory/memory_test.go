package memory

import (
	"bytes"
	"encoding/binary"
	"hash/fnv"
	"math"
	"slices"
	"strings"
	"testing"

	"vmfleet/api"
	"vmfleet/bits"
)

// The tests compare memories with lists of bytes: byte i of a list is the byte at the address i.

// bytesOf returns the bytes of words, written out by Go's library.
func bytesOf(words []uint32) []byte {
	var b []byte
	for _, w := range words {
		b = binary.LittleEndian.AppendUint32(b, w)
	}
	return b
}

// fill returns n words that differ from each other in all of their bytes' positions.
func fill(n int, seed uint64) []uint32 {
	words := make([]uint32, n)
	for i := range words {
		var value uint64
		value, seed = bits.Next(seed)
		words[i] = uint32(value)
	}
	return words
}

// pageText returns the bytes of a page, none of which is 0.
func pageText(first int) string {
	b := make([]byte, 128)
	for i := range b {
		b[i] = byte(first+i)%255 + 1
	}
	return string(b)
}

// noMemories returns lists of words that are not memories, each with contents.
func noMemories() [][]uint32 {
	lists := [][]uint32{nil, {}}
	for _, n := range []int{1, 2, 4, 16, 31, 33, 63, 65, 96 + 16, 1023, 1025, 1055, 33 * 32, 34 * 32, 64 * 32, 64*32 + 1, 256 * 32} {
		lists = append(lists, fill(n, uint64(n)))
	}
	return lists
}

// sizes are the sizes of accesses: two that are allowed, and others.
var sizes = []int{1, 4, math.MinInt, math.MinInt + 1, math.MinInt + 4, -1 << 32, -5, -4, -2, -1, 0, 2, 3, 5, 6, 8, 16, 32, 128, 255, 256, 257, 260, 1 << 32, 1<<32 + 1, 1<<32 + 4, math.MaxInt - 3, math.MaxInt}

// frames are numbers of pages that no memory of up to 32 pages has.
var frames = []int{math.MinInt, math.MinInt + 1, math.MinInt32, -1 << 58, -1 << 59, -33, -32, -2, -1, 32, 33, 64, 256, math.MaxInt32, 1 << 32, 1<<32 + 1, 1 << 57, 1 << 58, 1 << 59, math.MaxInt - 1, math.MaxInt}

// TestNew checks P4.1, New.
func TestNew(t *testing.T) {
	for pages := 1; pages <= 32; pages++ {
		m := New(pages)
		if len(m) != 32*pages || slices.Max(m) != 0 || Pages(m) != pages {
			t.Errorf("New(%d) has %d words, %d pages", pages, len(m), Pages(m))
		}
	}
	// 1 << 59 pages and one more would have 0 and 32 words modulo 2^64.
	for _, pages := range []int{math.MinInt, math.MinInt + 1, -1 << 59, -1<<59 + 1, -32, -1, 0, 33, 34, 64, 1 << 32, 1<<32 + 1, 1 << 59, 1<<59 + 1, math.MaxInt} {
		if m := New(pages); len(m) != 0 {
			t.Errorf("New(%d) has %d words", pages, len(m))
		}
	}
}

// TestNewIsNew checks P4.1: each memory is one of its own (R3).
func TestNewIsNew(t *testing.T) {
	a, b := New(2), New(2)
	a[0], a[63] = 1, 1
	if b[0] != 0 || b[63] != 0 || slices.Max(New(2)) != 0 {
		t.Error("two memories share their words")
	}
}

// TestPages checks P4.1, Pages, for lists of all lengths around those of memories.
func TestPages(t *testing.T) {
	counts := map[int]int{}
	for pages := 1; pages <= 32; pages++ {
		counts[32*pages] = pages
	}
	for n := range 2200 {
		if got := Pages(make([]uint32, n)); got != counts[n] {
			t.Errorf("a list of %d words has %d pages, want %d", n, got, counts[n])
		}
	}
	if got := Pages(nil) + Pages(make([]uint32, 1<<20)) + Pages(make([]uint32, 32, 64)[:31]); got != 0 {
		t.Errorf("lists that are not memories have %d pages", got)
	}
	if got := Pages(make([]uint32, 32, 2000)); got != 1 {
		t.Errorf("a memory with a greater capacity has %d pages", got)
	}
}

// TestLoad checks P4.2, Load, with literal values.
func TestLoad(t *testing.T) {
	m := New(2)
	m[0], m[1], m[31], m[32], m[63] = 0x84838281, 0x01020304, 0x11223344, 0x55667788, 0xFF00FE80
	for _, c := range []struct {
		addr uint32
		size int
		want uint32
		ok   bool
	}{
		{0, 4, 0x84838281, true},
		{0, 1, 0x81, true},
		{1, 1, 0x82, true},
		{2, 1, 0x83, true},
		{3, 1, 0x84, true},
		{4, 4, 0x01020304, true},
		{4, 1, 4, true},
		{8, 4, 0, true},
		{124, 4, 0x11223344, true},
		{127, 1, 0x11, true},
		{128, 4, 0x55667788, true},
		{128, 1, 0x88, true},
		{252, 4, 0xFF00FE80, true},
		{252, 1, 0x80, true},
		{255, 1, 0xFF, true},
		{1, 4, 0, false},
		{2, 4, 0, false},
		{3, 4, 0, false},
		{253, 4, 0, false},
		{255, 4, 0, false},
		{256, 4, 0, false},
		{256, 1, 0, false},
		{0x80000000, 4, 0, false},
		{0xFFFFFFFC, 4, 0, false},
		{0xFFFFFFFD, 4, 0, false},
		{0xFFFFFFFF, 1, 0, false},
		{0, 0, 0, false},
		{0, 2, 0, false},
		{0, 3, 0, false},
		{0, 8, 0, false},
		{0, -1, 0, false},
		{0, -4, 0, false},
		{0, 1<<32 + 4, 0, false},
	} {
		if got, ok := Load(m, c.addr, c.size); got != c.want || ok != c.ok {
			t.Errorf("Load at %d, size %d: %#x, %v, want %#x, %v", c.addr, c.size, got, ok, c.want, c.ok)
		}
	}
}

// TestStore checks P4.2, Store, with literal values and the chapter's example.
func TestStore(t *testing.T) {
	m := New(1)
	m[1], m[31] = 0x44332211, 0x44332211
	for _, c := range []struct {
		addr uint32
		size int
		v    uint32
		at   int
		want uint32
	}{
		{4, 4, 0xDEADBEEF, 1, 0xDEADBEEF},
		{4, 4, 0, 1, 0},
		{4, 1, 0xFFFFFFAA, 1, 0x443322AA},
		{5, 1, 0x1FF, 1, 0x4433FF11},
		{6, 1, 0x100, 1, 0x44002211},
		{7, 1, 0x80, 1, 0x80332211},
		{127, 1, 0x7F, 31, 0x7F332211},
		{124, 4, 1, 31, 1},
		{8, 4, 0x80000001, 2, 0x80000001},
		{0, 1, 0xFF, 0, 0xFF},
	} {
		want := slices.Clone(m)
		want[c.at] = c.want
		if got, ok := Store(m, c.addr, c.size, c.v); !ok || !slices.Equal(got, want) {
			t.Errorf("Store at %d, size %d, %#x: %x, %v, want %x", c.addr, c.size, c.v, got, ok, want)
		}
	}
	a, _ := Store(New(1), 5, 1, 0x1FF)
	if w, ok := Load(a, 4, 4); w != 0xFF00 || !ok {
		t.Errorf("the chapter's example: %#x, %v", w, ok)
	}
}

// addresses returns all addresses of a memory of so many bytes, those behind it, and those at which 32-bit arithmetic overflows or has a sign.
func addresses(count int) []uint32 {
	var list []uint32
	for addr := range count + 260 {
		list = append(list, uint32(addr))
	}
	for _, start := range []uint32{4096, 8192, 1 << 16, 1 << 24, 1 << 30, 1<<31 - 8, 3 << 30, 1<<32 - 16} {
		for i := range uint32(16) {
			list = append(list, start+i)
		}
	}
	return list
}

// TestEveryAccess checks P4.2 and P4.5: every address with every size, compared with a list of bytes.
func TestEveryAccess(t *testing.T) {
	for _, pages := range []int{1, 2, 31, 32} {
		m := fill(32*pages, uint64(pages))
		kept := slices.Clone(m)
		model := bytesOf(m)
		for _, addr := range addresses(len(model)) {
			for _, size := range sizes {
				checkLoad(t, m, model, addr, size)
				if size == 1 || size == 4 || addr < 8 || addr > 4090 {
					checkStore(t, m, model, addr, size, addr*0x9E3779B9+uint32(size))
				}
			}
		}
		if !slices.Equal(m, kept) {
			t.Errorf("a memory of %d pages was modified", pages)
		}
	}
}

// inside tells whether the access is allowed in a memory with the bytes of the model.
func inside(model []byte, addr uint32, size int) bool {
	return (size == 1 || size == 4) && int64(addr)%int64(size) == 0 && int64(addr)+int64(size) <= int64(len(model))
}

func checkLoad(t *testing.T, m []uint32, model []byte, addr uint32, size int) {
	t.Helper()
	var want uint32
	ok := inside(model, addr, size)
	if ok {
		for i := size - 1; i >= 0; i-- {
			want = want*256 + uint32(model[int(addr)+i])
		}
	}
	if got, is := Load(m, addr, size); got != want || is != ok {
		t.Fatalf("%d bytes, Load at %#x, size %d: %#x, %v, want %#x, %v", len(model), addr, size, got, is, want, ok)
	}
}

// checkStore also overwrites the result, so that the caller notices if it shares words with m.
func checkStore(t *testing.T, m []uint32, model []byte, addr uint32, size int, v uint32) {
	t.Helper()
	want := slices.Clone(model)
	ok := inside(model, addr, size)
	if ok {
		for i := range size {
			want[int(addr)+i] = byte(v >> (8 * i))
		}
	}
	got, is := Store(m, addr, size, v)
	if is != ok || !bytes.Equal(bytesOf(got), want) {
		t.Fatalf("%d bytes, Store at %#x, size %d, %#x: %v, want %v; the bytes are right: %v", len(model), addr, size, v, is, ok, bytes.Equal(bytesOf(got), want))
	}
	spoil(got)
}

func spoil(m []uint32) {
	for i := range m {
		m[i] = ^m[i]
	}
}

// TestStoredValues checks P4.2 for values of all kinds of bits, at each byte of a word.
func TestStoredValues(t *testing.T) {
	m := fill(64, 7)
	model := bytesOf(m)
	for i := range uint32(32) {
		for _, v := range []uint32{1 << i, 1<<i - 1, ^(uint32(1) << i), ^(uint32(1)<<i - 1)} {
			checkStore(t, m, model, 120, 4, v)
			for addr := range uint32(4) {
				checkStore(t, m, model, 124+addr, 1, v)
			}
		}
	}
}

// TestNoMemory checks P4.2 and P4.3: no access to a list that is not a memory succeeds, and what is returned is an equal list of its own.
func TestNoMemory(t *testing.T) {
	s := pageText(3)
	for _, m := range noMemories() {
		kept := slices.Clone(m)
		for _, size := range sizes {
			for _, addr := range []uint32{0, 1, 4, 8, 120, 124, 127, 128, 4092, 4096, 0xFFFFFFFC, 0xFFFFFFFF} {
				if w, ok := Load(m, addr, size); w != 0 || ok {
					t.Errorf("%d words, Load at %d, size %d: %#x, %v", len(m), addr, size, w, ok)
				}
				got, ok := Store(m, addr, size, 0x55)
				checkKept(t, m, kept, got, ok)
			}
		}
		for _, frame := range append(frames, 0, 1, 2, 3, 31) {
			if p, ok := Page(m, frame); p != "" || ok {
				t.Errorf("%d words, page %d: %x, %v", len(m), frame, p, ok)
			}
			got, ok := SetPage(m, frame, s)
			checkKept(t, m, kept, got, ok)
		}
	}
}

// checkKept expects that a failed change of m returned what m had been, kept, and left m as it is even when the result is overwritten.
func checkKept(t *testing.T, m, kept, got []uint32, ok bool) {
	t.Helper()
	if ok || !slices.Equal(got, kept) {
		t.Errorf("%d words: changed (%v), or not returned as they are", len(m), ok)
	}
	spoil(got)
	if !slices.Equal(m, kept) {
		t.Fatalf("%d words: the result shares words with the argument", len(m))
	}
}

// TestPage checks P4.3, Page: literal bytes first, then all pages of memories.
func TestPage(t *testing.T) {
	m := New(2)
	m[0], m[31], m[32] = 0x64636261, 0xFF000000, 0x04030280
	if p, ok := Page(m, 0); p != "abcd"+strings.Repeat("\x00", 123)+"\xff" || !ok {
		t.Errorf("page 0: %x, %v", p, ok)
	}
	if p, ok := Page(m, 1); p != "\x80\x02\x03\x04"+strings.Repeat("\x00", 124) || !ok {
		t.Errorf("page 1: %x, %v", p, ok)
	}
	for pages := 1; pages <= 32; pages++ {
		m := fill(32*pages, uint64(pages)+100)
		kept := slices.Clone(m)
		model := bytesOf(m)
		for frame := range pages {
			if p, ok := Page(m, frame); p != string(model[128*frame:128*frame+128]) || !ok {
				t.Errorf("page %d of %d: %x, %v", frame, pages, p, ok)
			}
		}
		for _, frame := range append(frames, pages, pages+1, -pages) {
			if p, ok := Page(m, frame); p != "" || ok {
				t.Errorf("page %d of %d: %x, %v", frame, pages, p, ok)
			}
		}
		if !slices.Equal(m, kept) {
			t.Errorf("a memory of %d pages was modified", pages)
		}
	}
}

// TestSetPage checks P4.3, SetPage: every page of memories of all sizes, and pages that they do not have.
func TestSetPage(t *testing.T) {
	for pages := 1; pages <= 32; pages++ {
		m := fill(32*pages, uint64(pages)+200)
		kept := slices.Clone(m)
		for frame := range pages {
			s := pageText(frame)
			want := bytesOf(m)
			copy(want[128*frame:], s)
			got, ok := SetPage(m, frame, s)
			if !ok || !bytes.Equal(bytesOf(got), want) {
				t.Errorf("page %d of %d: %v, %x", frame, pages, ok, got)
			}
			if p, ok := Page(got, frame); p != s || !ok {
				t.Errorf("page %d of %d is %x afterwards", frame, pages, p)
			}
			spoil(got)
			if !slices.Equal(m, kept) {
				t.Fatalf("page %d of %d: the argument was modified", frame, pages)
			}
		}
		for _, frame := range append(frames, pages, pages+1, -pages) {
			got, ok := SetPage(m, frame, pageText(1))
			checkKept(t, m, kept, got, ok)
		}
	}
}

// TestSetPageBytes checks P4.3: the word of four bytes that differ, and every value of a byte.
func TestSetPageBytes(t *testing.T) {
	a, ok := SetPage(New(1), 0, "\x01\x82\x03\xf4"+strings.Repeat("\x00", 123)+"\x80")
	if !ok || a[0] != 0xF4038201 || a[1] != 0 || a[31] != 0x80000000 {
		t.Errorf("%x, %v", a, ok)
	}
	for b := range 256 {
		s := strings.Repeat(string([]byte{byte(b), byte(b + 1), byte(b + 2), byte(b + 3)}), 32)
		a, _ := SetPage(fill(64, 5), 1, s)
		if p, ok := Page(a, 1); p != s || !ok {
			t.Errorf("page of %d: %x, %v", b, p, ok)
		}
	}
}

// TestSetPageLength checks P4.3: only PageBytes bytes are a page.
func TestSetPageLength(t *testing.T) {
	m := fill(64, 9)
	kept := slices.Clone(m)
	for n := range 600 {
		if n == 128 {
			continue
		}
		for frame := range 2 {
			got, ok := SetPage(m, frame, strings.Repeat("x", n))
			checkKept(t, m, kept, got, ok)
		}
	}
}

// TestHash checks P4.4, Hash: published values of FNV-1a's start, and the hash of Go's library for memories and other lists.
func TestHash(t *testing.T) {
	if got := Hash(nil); got != 0xCBF29CE484222325 || Hash([]uint32{}) != got {
		t.Errorf("the hash of no words is %#x", got)
	}
	if got, want := Hash([]uint32{0x64636261, 0x80}), bits.Hash(api.HashStart, "abcd\x80\x00\x00\x00"); got != want {
		t.Errorf("the hash of two words is %#x, want %#x", got, want)
	}
	lists := noMemories()
	for n := range 200 {
		lists = append(lists, fill(n, uint64(n)+300), make([]uint32, n))
	}
	for _, pages := range []int{1, 2, 31, 32} {
		lists = append(lists, fill(32*pages, 400), New(pages))
	}
	for _, m := range lists {
		kept := slices.Clone(m)
		library := fnv.New64a()
		library.Write(bytesOf(m))
		if got := Hash(m); got != library.Sum64() || !slices.Equal(m, kept) {
			t.Errorf("%d words: %#x, want %#x", len(m), got, library.Sum64())
		}
	}
}

// TestHashOfPages checks P4.3 and P4.4 together: the hash of a memory is that of its pages' bytes in their order.
func TestHashOfPages(t *testing.T) {
	m := fill(32*32, 11)
	h := api.HashStart
	for frame := range 32 {
		p, _ := Page(m, frame)
		h = bits.Hash(h, p)
	}
	if got := Hash(m); got != h {
		t.Errorf("%#x, want %#x", got, h)
	}
}

// TestChangedWord checks P4.4, Changed: a difference in any single word of a memory.
func TestChangedWord(t *testing.T) {
	for _, pages := range []int{1, 2, 31, 32} {
		a := fill(32*pages, 12)
		kept := slices.Clone(a)
		for i := range a {
			b := slices.Clone(a)
			b[i] ^= 1 << (i % 32)
			want := []int{i / 32}
			if got, back := Changed(a, b), Changed(b, a); !slices.Equal(got, want) || !slices.Equal(back, want) {
				t.Errorf("word %d of %d pages: %v, %v", i, pages, got, back)
			}
		}
		if got := Changed(a, kept); len(got) != 0 || !slices.Equal(a, kept) {
			t.Errorf("equal memories of %d pages: %v", pages, got)
		}
	}
}

// TestChangedPages checks P4.4, Changed: several pages, in ascending order.
func TestChangedPages(t *testing.T) {
	for _, set := range []uint32{0, 1, 3, 0x80000000, 0x80000001, 0xAAAAAAAA, 0x55555555, 0x00FF00F0, 0xFFFFFFFF} {
		a := fill(32*32, uint64(set))
		b := slices.Clone(a)
		var want []int
		for frame := range 32 {
			if set>>frame&1 == 1 {
				b[32*frame+frame]++
				b[32*frame+31-frame]--
				want = append(want, frame)
			}
		}
		got := Changed(a, b)
		if !slices.Equal(got, want) {
			t.Errorf("%#x: %v, want %v", set, got, want)
		}
		for i := range got {
			got[i] = -1
		}
		if again := Changed(a, b); !slices.Equal(again, want) {
			t.Errorf("%#x: %v after the first result was overwritten, want %v", set, again, want)
		}
	}
}

// TestChangedNone checks P4.4, Changed: memories of different sizes, and lists that are not memories, differ in no page.
func TestChangedNone(t *testing.T) {
	lists := noMemories()
	for pages := 1; pages <= 32; pages++ {
		lists = append(lists, fill(32*pages, 500))
	}
	for _, a := range lists {
		for _, b := range lists {
			if got := Changed(a, b); len(got) != 0 {
				t.Errorf("%d and %d words: %v", len(a), len(b), got)
			}
		}
	}
	for _, a := range noMemories() {
		b := slices.Clone(a)
		spoil(b)
		if got := Changed(a, b); len(got) != 0 {
			t.Errorf("two different lists of %d words: %v", len(a), got)
		}
	}
}

// TestHistory checks P4.5: after a long sequence of stores, every byte is the one that was stored there last, or zero.
func TestHistory(t *testing.T) {
	for _, pages := range []int{1, 3, 32} {
		m := New(pages)
		model := make([]byte, 128*pages)
		seed := uint64(pages)
		for range 3000 {
			var value uint64
			value, seed = bits.Next(seed)
			size := sizes[value>>60%3]
			addr := uint32(value>>32) % uint32(len(model)+8)
			next, ok := Store(m, addr, size, uint32(value))
			if ok != inside(model, addr, size) {
				t.Fatalf("Store at %d, size %d: %v", addr, size, ok)
			}
			for i := range size {
				if ok {
					model[int(addr)+i] = byte(value >> (8 * i))
				}
			}
			if m = next; !bytes.Equal(bytesOf(m), model) {
				t.Fatalf("%d pages: wrong after Store at %d, size %d, %#x", pages, addr, size, uint32(value))
			}
		}
		for addr := range model {
			checkLoad(t, m, model, uint32(addr), 1)
			checkLoad(t, m, model, uint32(addr), 4)
		}
	}
}
