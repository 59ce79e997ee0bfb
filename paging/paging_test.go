package paging

import (
	"math"
	"slices"
	"testing"

	"vmfleet/api"
	"vmfleet/bits"
	"vmfleet/memory"
)

// The tests look at memories as lists of words: the entry of page p in the table of frame r is the word r*32 + p. They write flags and causes as numbers: valid 1, write 2, exec 4, accessed 8, dirty 16; fetch 4, load 5, store 6.

// fill returns n words whose bits follow no rule.
func fill(n int, seed uint64) []uint32 {
	words := make([]uint32, n)
	for i := range words {
		var value uint64
		value, seed = bits.Next(seed)
		words[i] = uint32(value)
	}
	return words
}

// full returns n words that are valid entries of frame 0 with all flags.
func full(n int) []uint32 {
	return slices.Repeat([]uint32{31}, n)
}

// noMemories are lengths of lists of words that are not memories.
var noMemories = []int{0, 1, 3, 31, 33, 63, 65, 1023, 1025, 33 * 32, 34 * 32, 64 * 32, 256 * 32}

// accesses are the three kinds of access, and then other numbers.
var accesses = []int{1, 2, 3, math.MinInt, math.MinInt + 2, -3, -2, -1, 0, 4, 5, 6, 7, 255, 257, 258, 259, 1<<32 + 1, 1<<32 + 2, 1<<32 + 3, math.MaxInt}

// frames are numbers of frames that no memory has, among them some with which an address overflows to one of a page table.
var frames = []uint32{32, 33, 64, 255, 256, 257, 1 << 16, 1 << 20, 1 << 24, 1<<25 - 1, 1 << 25, 1<<25 + 1, 1 << 27, 1<<27 + 1, 1 << 30, 1<<31 - 1, 1 << 31, 1<<31 + 1, 3 << 30, 1<<32 - 2, 1<<32 - 1}

// faultOf returns the result of a failed walk.
func faultOf(access int) api.Translation {
	switch access {
	case 1:
		return api.Translation{Cause: 4}
	case 3:
		return api.Translation{Cause: 6}
	}
	return api.Translation{Cause: 5}
}

// expectWalk also expects that the memory keeps its contents.
func expectWalk(t *testing.T, m []uint32, root, va uint32, access int, want api.Translation) {
	t.Helper()
	kept := slices.Clone(m)
	if got := Walk(m, root, va, access); got != want {
		t.Errorf("%d words, root %d, va %d, access %d: %+v, want %+v", len(m), root, va, access, got, want)
	}
	if !slices.Equal(m, kept) {
		t.Fatalf("%d words, root %d, va %d, access %d: the memory was modified", len(m), root, va, access)
	}
}

// expectFault expects that each kind of access fails with its cause.
func expectFault(t *testing.T, m []uint32, root, va uint32) {
	t.Helper()
	for _, access := range accesses {
		expectWalk(t, m, root, va, access, faultOf(access))
	}
}

// expectKept expects that got is what m was, kept, and that it shares no words with m.
func expectKept(t *testing.T, m, kept, got []uint32) {
	t.Helper()
	if !slices.Equal(got, kept) {
		t.Errorf("%d words: not returned as they are: %x", len(kept), got)
	}
	spoil(got)
	if !slices.Equal(m, kept) {
		t.Fatalf("%d words: the argument was modified, or the result shares words with it", len(kept))
	}
}

func spoil(m []uint32) {
	for i := range m {
		m[i] = ^m[i]
	}
}

// TestWalk checks P5.1 with literal values, the chapter's example first.
func TestWalk(t *testing.T) {
	m, ok := Map(memory.New(2), 0, 3, 1, api.PteValid)
	if got := Walk(m, 0, 3*128+5, api.AccessLoad); got != (api.Translation{Addr: 133, Entry: 12}) || !ok {
		t.Errorf("the chapter's example: %+v, %v", got, ok)
	}
	m = make([]uint32, 4*32)
	m[2*32+0] = 0x00000307  // frame 3: valid, write, exec
	m[2*32+1] = 0xFFFF00E1  // frame 0: valid
	m[2*32+30] = 0x00000203 // frame 2: valid, write
	m[2*32+31] = 0x80000105 // frame 1: valid, exec
	for _, c := range []struct {
		va     uint32
		access int
		want   api.Translation
	}{
		{0, api.AccessFetch, api.Translation{Addr: 384, Entry: 256}},
		{0, api.AccessLoad, api.Translation{Addr: 384, Entry: 256}},
		{0, api.AccessStore, api.Translation{Addr: 384, Entry: 256}},
		{1, api.AccessFetch, api.Translation{Addr: 385, Entry: 256}},
		{127, api.AccessStore, api.Translation{Addr: 511, Entry: 256}},
		{128, api.AccessLoad, api.Translation{Addr: 0, Entry: 260}},
		{255, api.AccessLoad, api.Translation{Addr: 127, Entry: 260}},
		{128, api.AccessFetch, api.Translation{Cause: api.CauseFetch}},
		{128, api.AccessStore, api.Translation{Cause: api.CauseStore}},
		{256, api.AccessFetch, api.Translation{Cause: api.CauseFetch}},
		{256, api.AccessLoad, api.Translation{Cause: api.CauseLoad}},
		{256, api.AccessStore, api.Translation{Cause: api.CauseStore}},
		{3841, api.AccessLoad, api.Translation{Addr: 257, Entry: 376}},
		{3842, api.AccessStore, api.Translation{Addr: 258, Entry: 376}},
		{3843, api.AccessFetch, api.Translation{Cause: api.CauseFetch}},
		{4095, api.AccessFetch, api.Translation{Addr: 255, Entry: 380}},
		{4095, api.AccessLoad, api.Translation{Addr: 255, Entry: 380}},
		{4095, api.AccessStore, api.Translation{Cause: api.CauseStore}},
		{4096, api.AccessLoad, api.Translation{Cause: api.CauseLoad}},
		{0, 0, api.Translation{Cause: api.CauseLoad}},
		{0, 4, api.Translation{Cause: api.CauseLoad}},
		{0, -1, api.Translation{Cause: api.CauseLoad}},
	} {
		expectWalk(t, m, 2, c.va, c.access, c.want)
	}
}

// TestWalkFlags checks P5.1: every set of flags with every kind of access, whatever the bits are that are ignored.
func TestWalkFlags(t *testing.T) {
	m := make([]uint32, 3*32)
	for flags := range uint32(32) {
		valid, write, exec := flags&1 == 1, flags>>1&1 == 1, flags>>2&1 == 1
		for _, ignored := range []uint32{0, 1 << 5, 1 << 6, 1 << 7, 1 << 16, 1 << 31, 0xFFFF00E0} {
			m[32+9] = flags | 2<<8 | ignored
			for _, access := range accesses {
				want := faultOf(access)
				if valid && (access == 2 || access == 3 && write || access == 1 && exec) {
					want = api.Translation{Addr: 256 + 77, Entry: 128 + 36}
				}
				expectWalk(t, m, 1, 9*128+77, access, want)
			}
		}
	}
}

// TestWalkAddresses checks P5.1: every address, with each page in a different frame, and every place of the page table.
func TestWalkAddresses(t *testing.T) {
	for root := range uint32(32) {
		m := fill(32*32, uint64(root))
		for page := range uint32(32) {
			m[32*root+page] = (page*5+root)%32<<8 | 1
		}
		for va := range uint32(4096) {
			want := api.Translation{Addr: (va/128*5+root)%32*128 + va%128, Entry: 128*root + va/128*4}
			if got := Walk(m, root, va, api.AccessLoad); got != want {
				t.Fatalf("root %d, va %d: %+v, want %+v", root, va, got, want)
			}
		}
	}
}

// TestWalkBeyond checks P5.1: no address from 4096 on is translated.
func TestWalkBeyond(t *testing.T) {
	m := full(32 * 32)
	for _, va := range []uint32{4096, 4097, 4099, 4100, 4223, 4224, 8191, 8192, 1 << 16, 1 << 24, 1<<31 - 1, 1 << 31, 1<<31 + 4, 3 << 30, 0xFFFFFF80, 0xFFFFFFFF} {
		expectFault(t, m, 0, va)
		expectFault(t, m, 31, va)
	}
	// The page table is followed by a page that would translate these addresses.
	if got := Walk(m, 0, 4095, api.AccessLoad); got != (api.Translation{Addr: 127, Entry: 124}) {
		t.Errorf("the last address: %+v", got)
	}
}

// TestWalkFrames checks P5.1: every frame number, in memories of several sizes.
func TestWalkFrames(t *testing.T) {
	for _, pages := range []int{1, 2, 31, 32} {
		m := make([]uint32, 32*pages)
		for frame := range uint32(256) {
			m[4] = 31 | frame<<8
			if frame >= uint32(pages) {
				expectFault(t, m, 0, 4*128)
				continue
			}
			for access := 1; access <= 3; access++ {
				expectWalk(t, m, 0, 4*128+3, access, api.Translation{Addr: frame*128 + 3, Entry: 16})
			}
		}
	}
}

// TestWalkRoots checks P5.1: a page table must be a page of the memory.
func TestWalkRoots(t *testing.T) {
	for pages := 1; pages <= 32; pages++ {
		m := full(32 * pages)
		for root := range uint32(pages) {
			for access := 1; access <= 3; access++ {
				expectWalk(t, m, root, 7, access, api.Translation{Addr: 7, Entry: 128 * root})
			}
		}
		for _, root := range append(frames, uint32(pages), uint32(pages)+1) {
			expectFault(t, m, root, 7)
		}
	}
}

// TestWalkNoMemory checks P5.1: no address is translated in a list that is not a memory.
func TestWalkNoMemory(t *testing.T) {
	for _, n := range noMemories {
		m := full(n)
		for _, root := range append(frames, 0, 1, 31) {
			expectFault(t, m, root, 0)
			expectFault(t, m, root, 128)
		}
	}
	expectFault(t, nil, 0, 0)
}

// TestTouch checks P5.2 with literal values.
func TestTouch(t *testing.T) {
	m := make([]uint32, 2*32)
	m[0], m[33], m[63] = 0x00000101, 0xFFFF02E1, 0xFFFFFFFF
	for _, c := range []struct {
		entry  uint32
		access int
		want   uint32
	}{
		{0, api.AccessFetch, 0x00000109},
		{0, api.AccessLoad, 0x00000109},
		{0, api.AccessStore, 0x00000119},
		{4, api.AccessLoad, 0x00000008},
		{4, api.AccessStore, 0x00000018},
		{132, api.AccessLoad, 0xFFFF02E9},
		{132, api.AccessStore, 0xFFFF02F9},
		{252, api.AccessFetch, 0xFFFFFFFF},
		{252, api.AccessStore, 0xFFFFFFFF},
		{0, 0, 0x00000109},
		{0, 4, 0x00000109},
		{0, -3, 0x00000109},
	} {
		want := slices.Clone(m)
		want[c.entry/4] = c.want
		if got := Touch(m, c.entry, c.access); !slices.Equal(got, want) {
			t.Errorf("entry %d, access %d: %x, want %x", c.entry, c.access, got, want)
		}
	}
}

// TestTouchEveryWord checks P5.2: at every address of a memory, and behind it, with every kind of access.
func TestTouchEveryWord(t *testing.T) {
	for _, pages := range []int{1, 2, 31, 32} {
		m := fill(32*pages, uint64(pages))
		kept := slices.Clone(m)
		beyond := []uint32{4096, 4100, 8192, 1 << 31, 1<<31 + 4, 1<<32 - 128, 1<<32 - 4, 1<<32 - 1}
		for entry := range uint32(128*pages + 140) {
			beyond = append(beyond, entry)
		}
		for _, entry := range beyond {
			for _, access := range accesses {
				want := slices.Clone(kept)
				if entry%4 == 0 && entry < uint32(128*pages) {
					want[entry/4] |= 8
					if access == 3 {
						want[entry/4] |= 16
					}
				}
				got := Touch(m, entry, access)
				if !slices.Equal(got, want) {
					t.Fatalf("%d pages, entry %d, access %d: wrong", pages, entry, access)
				}
				spoil(got)
			}
		}
		if !slices.Equal(m, kept) {
			t.Errorf("%d pages: the argument was modified, or a result shares words with it", pages)
		}
	}
}

// TestTouchNoMemory checks P5.2: a list that is not a memory is returned as it is.
func TestTouchNoMemory(t *testing.T) {
	for _, n := range noMemories {
		m := fill(n, uint64(n))
		kept := slices.Clone(m)
		for _, entry := range []uint32{0, 1, 4, 128, 4092, 4096, 0xFFFFFFFC} {
			for _, access := range accesses {
				expectKept(t, m, kept, Touch(m, entry, access))
			}
		}
	}
}

// TestMap checks P5.3, Map, with literal values: what the entry contained is gone.
func TestMap(t *testing.T) {
	m := fill(4*32, 1)
	m[32+3] = 0xFFFFFFFF
	for _, c := range []struct {
		root, page, frame, flags uint32
		at                       int
		want                     uint32
	}{
		{1, 3, 0, 0, 35, 0},
		{1, 3, 2, 1, 35, 0x201},
		{1, 3, 3, 31, 35, 0x31F},
		{1, 0, 1, 17, 32, 0x111},
		{1, 31, 1, 2, 63, 0x102},
		{0, 0, 0, 1, 0, 1},
		{3, 31, 3, 4, 127, 0x304},
	} {
		want := slices.Clone(m)
		want[c.at] = c.want
		got, ok := Map(m, c.root, c.page, c.frame, c.flags)
		if !ok || !slices.Equal(got, want) {
			t.Errorf("%+v: %x, %v", c, got, ok)
		}
	}
}

// TestMapEvery checks P5.3, Map: every page with every frame, every set of flags, and every root.
func TestMapEvery(t *testing.T) {
	for _, pages := range []uint32{1, 2, 31, 32} {
		m := fill(32*int(pages), uint64(pages))
		kept := slices.Clone(m)
		for i := range uint32(32 * 32 * 32) {
			page, frame, flags := i%32, i/32%32%pages, i/1024
			root := (page + frame*3 + flags*7) % pages
			got, ok := Map(m, root, page, frame, flags)
			at := 32*root + page
			if !ok || len(got) != len(kept) || got[at] != frame*256+flags {
				t.Fatalf("%d pages, root %d, page %d, frame %d, flags %d: %v", pages, root, page, frame, flags, ok)
			}
			got[at] = kept[at]
			if !slices.Equal(got, kept) {
				t.Fatalf("%d pages, root %d, page %d, frame %d, flags %d: another word changed", pages, root, page, frame, flags)
			}
			spoil(got)
		}
		if !slices.Equal(m, kept) {
			t.Errorf("%d pages: the argument was modified, or a result shares words with it", pages)
		}
	}
}

// TestMapInvalid checks P5.3, Map: each argument that makes it fail, alone.
func TestMapInvalid(t *testing.T) {
	for pages := uint32(1); pages <= 32; pages++ {
		m := fill(32*int(pages), uint64(pages))
		kept := slices.Clone(m)
		for _, x := range append(frames, pages, pages+1) {
			for _, args := range [][4]uint32{{x, 0, 0, 1}, {0, 0, x, 1}, {x, 0, x, 1}} {
				expectMapFails(t, m, kept, args)
			}
		}
		for _, x := range append(frames, 32, 33) {
			expectMapFails(t, m, kept, [4]uint32{0, x, 0, 1})
			expectMapFails(t, m, kept, [4]uint32{0, 0, 0, x})
		}
	}
	for _, n := range noMemories {
		m := fill(n, uint64(n))
		kept := slices.Clone(m)
		for _, args := range [][4]uint32{{0, 0, 0, 0}, {0, 0, 0, 1}, {0, 31, 0, 31}, {1, 0, 1, 1}, {31, 31, 31, 31}, {32, 0, 0, 1}} {
			expectMapFails(t, m, kept, args)
		}
	}
}

func expectMapFails(t *testing.T, m, kept []uint32, args [4]uint32) {
	t.Helper()
	got, ok := Map(m, args[0], args[1], args[2], args[3])
	if ok {
		t.Errorf("%d words, %v: accepted", len(m), args)
	}
	expectKept(t, m, kept, got)
}

// TestList checks P5.3, List, with literal values: an entry is listed even if its frame is none of the memory.
func TestList(t *testing.T) {
	m := make([]uint32, 3*32)
	m[32+0], m[32+1], m[32+7], m[32+8], m[32+31] = 0x00000201, 0x0000021E, 0xAB0CC5E3, 0xFFFFFFFE, 0xFFFFFFFF
	m[31], m[64] = 1, 1
	want := []api.Mapping{{Page: 0, Frame: 2, Flags: 1}, {Page: 7, Frame: 0xC5, Flags: 3}, {Page: 31, Frame: 255, Flags: 31}}
	got := List(m, 1)
	if !slices.Equal(got, want) {
		t.Errorf("%+v, want %+v", got, want)
	}
	got[0].Page = 9
	if again := List(m, 1); !slices.Equal(again, want) {
		t.Errorf("%+v after the first result was overwritten", again)
	}
	if got := List(memory.New(3), 1); len(got) != 0 {
		t.Errorf("the table of a new memory: %+v", got)
	}
	if got := List(m, 0); !slices.Equal(got, []api.Mapping{{Page: 31, Flags: 1}}) {
		t.Errorf("the table of frame 0: %+v", got)
	}
}

// TestListEvery checks P5.3, List: every table of memories of all sizes, compared with its words.
func TestListEvery(t *testing.T) {
	for pages := 1; pages <= 32; pages++ {
		m := fill(32*pages, uint64(pages)+50)
		kept := slices.Clone(m)
		for root := range pages {
			var want []api.Mapping
			for page := range 32 {
				w := m[32*root+page]
				if w%2 == 1 {
					want = append(want, api.Mapping{Page: uint32(page), Frame: w / 256 % 256, Flags: w % 32})
				}
			}
			if got := List(m, uint32(root)); !slices.Equal(got, want) {
				t.Errorf("root %d of %d pages: %+v, want %+v", root, pages, got, want)
			}
		}
		if !slices.Equal(m, kept) {
			t.Errorf("a memory of %d pages was modified", pages)
		}
	}
	all := List(full(2*32), 1)
	for page := range uint32(32) {
		if len(all) != 32 || all[page] != (api.Mapping{Page: page, Flags: 31}) {
			t.Fatalf("a table of valid entries: %+v", all)
		}
	}
}

// TestListNone checks P5.3, List: there is no table in a list that is not a memory, nor at a root that is not a page.
func TestListNone(t *testing.T) {
	for pages := 1; pages <= 32; pages++ {
		for _, root := range append(frames, uint32(pages), uint32(pages)+1) {
			if got := List(full(32*pages), root); len(got) != 0 {
				t.Errorf("root %d of %d pages: %+v", root, pages, got)
			}
		}
	}
	for _, n := range noMemories {
		for _, root := range append(frames, 0, 1, 31) {
			if got := List(full(n), root); len(got) != 0 {
				t.Errorf("root %d of %d words: %+v", root, n, got)
			}
		}
	}
}

// TestEntriesStop checks that the iterator may be left after each entry, as every range over a function may be.
func TestEntriesStop(t *testing.T) {
	m := fill(2*32, 3)
	for last := range uint32(32) {
		var seen []uint32
		for page, entry := range entries(m, 1) {
			if entry != m[32+page] {
				t.Errorf("page %d: %#x", page, entry)
			}
			seen = append(seen, page)
			if page == last {
				break
			}
		}
		if len(seen) != int(last)+1 || !slices.IsSorted(seen) {
			t.Errorf("left at %d: %v", last, seen)
		}
	}
}

// TestMapThenWalk checks P5.4: after Map with PteValid, each address of the page leads to the same offset of the frame, and the other pages are as they were.
func TestMapThenWalk(t *testing.T) {
	for i := range uint32(16 * 32) {
		flags, page := i%16*2+1, i/16
		m := fill(5*32, uint64(i))
		root, frame := (page+flags)%5, (page*3+flags/2)%5
		after, ok := Map(m, root, page, frame, flags)
		if !ok {
			t.Fatalf("root %d, page %d, frame %d, flags %d: failed", root, page, frame, flags)
		}
		for va := range uint32(4096) {
			for access := 1; access <= 3; access++ {
				want := Walk(m, root, va, access)
				if va/128 == page {
					want = faultOf(access)
					if access == 2 || access == 1 && flags&4 != 0 || access == 3 && flags&2 != 0 {
						want = api.Translation{Addr: frame*128 + va%128, Entry: root*128 + page*4}
					}
				}
				if got := Walk(after, root, va, access); got != want {
					t.Fatalf("root %d, page %d, frame %d, flags %d, va %d, access %d: %+v, want %+v", root, page, frame, flags, va, access, got, want)
				}
			}
		}
	}
}

// TestMapThenList checks P5.3 and P5.4: List returns what was mapped, in the order of the pages, not in that of the calls.
func TestMapThenList(t *testing.T) {
	m := memory.New(32)
	var want []api.Mapping
	for i := range uint32(32) {
		page := i * 13 % 32
		var ok bool
		if m, ok = Map(m, 6, page, 31-page, page|1); !ok {
			t.Fatalf("page %d: failed", page)
		}
		want = append(want, api.Mapping{Page: i, Frame: 31 - i, Flags: i | 1})
	}
	if got := List(m, 6); !slices.Equal(got, want) {
		t.Errorf("%+v, want %+v", got, want)
	}
}

// TestTouchThenWalk checks P5.4: Touch of any word, with any access, changes no result of Walk.
func TestTouchThenWalk(t *testing.T) {
	m := fill(4*32, 8)
	for i := range m {
		// Frame numbers from 0 to 7: half of them are frames of the memory.
		m[i] &= 0xFFFF07FF
	}
	before := walks(m)
	for entry := range uint32(4*128 + 4) {
		for _, access := range []int{1, 2, 3, 0} {
			if !slices.Equal(walks(Touch(m, entry, access)), before) {
				t.Fatalf("entry %d, access %d: a walk changed", entry, access)
			}
		}
	}
	good := 0
	for _, x := range before {
		if x.Cause == 0 {
			good++
		}
	}
	if good == 0 || good == len(before) {
		t.Errorf("%d of %d walks succeed: the test compares too little", good, len(before))
	}
}

// walks returns a walk of each page of each table with each kind of access.
func walks(m []uint32) []api.Translation {
	var list []api.Translation
	for root := range uint32(len(m)/32 + 1) {
		for page := range uint32(33) {
			for access := 0; access <= 4; access++ {
				list = append(list, Walk(m, root, page*128+page, access))
			}
		}
	}
	return list
}
