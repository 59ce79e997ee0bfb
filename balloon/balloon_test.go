package balloon

import (
	"math"
	"math/rand/v2"
	"slices"
	"testing"

	"vmfleet/api"
	"vmfleet/memory"
)

// fill returns n words, none of which is 0.
func fill(n int) []uint32 {
	words := make([]uint32, n)
	for i := range words {
		words[i] = uint32(i+1) * 0x9E3779B9
	}
	return words
}

// memories are memories and lists that are none.
func memories() [][]uint32 {
	list := [][]uint32{memory.New(3), nil, {}, fill(1), fill(31), fill(33), fill(63), fill(65), fill(33 * 32), fill(64 * 32)}
	for pages := 1; pages <= 32; pages++ {
		list = append(list, fill(32*pages))
	}
	return list
}

// pagesOf returns the number of pages of m, without the help of package memory.
func pagesOf(m []uint32) uint32 {
	if n := len(m); n%32 == 0 && n <= 1024 {
		return uint32(n / 32)
	}
	return 0
}

// spoil overwrites words, so that whoever shares them notices.
func spoil(words []uint32) {
	for i := range words {
		words[i] = ^words[i]
	}
}

// values are all frames, and numbers whose low bits or signs could mislead.
func values() []uint32 {
	var list []uint32
	for v := range uint32(70) {
		list = append(list, v)
	}
	for n := 7; n < 32; n++ {
		list = append(list, 1<<n-1, 1<<n, 1<<n+1, 1<<n+2, 1<<n+31, 1<<n+33)
	}
	return append(list, math.MaxUint32-31, math.MaxUint32-1, math.MaxUint32)
}

// ports are all ports and numbers that are no ports.
func ports() []int {
	list := []int{math.MinInt, math.MinInt + 10, -1 << 32, -11, -10, -1, 256 + 10, 256 + 11, 1<<16 + 10, 1<<32 + 10, 1<<32 + 11, math.MaxInt}
	for port := range 20 {
		list = append(list, port)
	}
	return list
}

// sets are sets of given frames: none, all, each single one, all but each single one, and mixtures.
func sets() []uint32 {
	list := []uint32{0, math.MaxUint32, 0x55555555, 0xAAAAAAAA, 0xFFFF, 0xFFFF0000, 0x80000001, 0x12345678, 0xDEADBEEF}
	for i := range 32 {
		list = append(list, 1<<i, ^(uint32(1) << i), 1<<i-1)
	}
	return list
}

// balloons are balloons with all those sets and targets of all kinds.
func balloons() []api.Balloon {
	var list []api.Balloon
	for _, given := range sets() {
		for _, target := range []uint32{0, 1, 2, 16, 31, 32, 33, 256 + 1, 1<<16 + 1, 1<<31 + 1, math.MaxUint32} {
			list = append(list, api.Balloon{Target: target, Given: given})
		}
	}
	return list
}

// listed tells whether a set contains a frame.
func listed(set, frame uint32) bool {
	return frame < 32 && set>>frame%2 == 1
}

// size returns the number of frames of a set.
func size(set uint32) int {
	n := 0
	for i := range uint32(32) {
		if listed(set, i) {
			n++
		}
	}
	return n
}

// TestExample checks P11.1 and P11.2 with the chapter's example.
func TestExample(t *testing.T) {
	b, m := Out(api.Balloon{Target: 1}, fill(96), api.PortBalloon, 2)
	if b.Given != 4 || Pending(b) {
		t.Errorf("%+v", b)
	}
	if want := append(fill(64), make([]uint32, 32)...); !slices.Equal(m, want) {
		t.Errorf("the memory is %x", m)
	}
}

// TestCountValues checks P11.1, Count and Pending, with literal values.
func TestCountValues(t *testing.T) {
	for _, c := range []struct {
		b       api.Balloon
		count   int
		pending bool
	}{
		{api.Balloon{}, 0, false},
		{api.Balloon{Target: 1}, 0, true},
		{api.Balloon{Given: 1}, 1, true},
		{api.Balloon{Target: 1, Given: 1}, 1, false},
		{api.Balloon{Target: 1, Given: 0x80000000}, 1, false},
		{api.Balloon{Target: 2, Given: 0x80000001}, 2, false},
		{api.Balloon{Target: 4, Given: 4}, 1, true},
		{api.Balloon{Target: 3, Given: 3}, 2, true},
		{api.Balloon{Target: 13, Given: 0x12345678}, 13, false},
		{api.Balloon{Target: 31, Given: 0xFFFFFFFF}, 32, true},
		{api.Balloon{Target: 32, Given: 0xFFFFFFFF}, 32, false},
		{api.Balloon{Target: 33, Given: 0xFFFFFFFF}, 32, true},
		{api.Balloon{Target: 257, Given: 1}, 1, true},
		{api.Balloon{Target: 0x80000001, Given: 1}, 1, true},
		{api.Balloon{Target: 0xFFFFFFFF, Given: 0xFFFFFFFF}, 32, true},
		{api.Balloon{Target: 0xFFFFFFFF}, 0, true},
	} {
		if got, pending := Count(c.b), Pending(c.b); got != c.count || pending != c.pending {
			t.Errorf("%+v: %d, %v", c.b, got, pending)
		}
	}
}

// TestCount checks P11.1, Count and Pending, for sets of all kinds and the targets around their sizes.
func TestCount(t *testing.T) {
	for _, given := range sets() {
		want := size(given)
		for target := range uint32(40) {
			b := api.Balloon{Target: target, Given: given}
			if Count(b) != want || Pending(b) != (int(target) != want) {
				t.Errorf("%+v: %d, %v, want %d", b, Count(b), Pending(b), want)
			}
		}
	}
}

// TestIn checks P11.1, In: every port of every balloon.
func TestIn(t *testing.T) {
	for _, b := range balloons() {
		for _, port := range ports() {
			want := map[int]uint32{10: b.Target, 11: uint32(size(b.Given))}[port]
			if got := In(b, port); got != want {
				t.Errorf("port %d of %+v: %d, want %d", port, b, got, want)
			}
		}
	}
}

// TestOutValues checks P11.2 with literal values.
func TestOutValues(t *testing.T) {
	zeroed := func(frame int) []uint32 {
		m := fill(96)
		for i := range 32 {
			m[32*frame+i] = 0
		}
		return m
	}
	for i, c := range []struct {
		given uint32
		port  int
		v     uint32
		want  uint32
		after []uint32
	}{
		{0, 10, 0, 1, zeroed(0)},
		{0, 10, 1, 2, zeroed(1)},
		{0, 10, 2, 4, zeroed(2)},
		{5, 10, 1, 7, zeroed(1)},
		{0xFFFFFFFB, 10, 2, 0xFFFFFFFF, zeroed(2)},
		{4, 10, 2, 4, fill(96)},
		{0, 10, 3, 0, fill(96)},
		{0, 10, 31, 0, fill(96)},
		{0, 10, 32, 0, fill(96)},
		{0, 10, 0x80000000, 0, fill(96)},
		{0, 10, 0x80000001, 0, fill(96)},
		{0, 10, 0xFFFFFFFF, 0, fill(96)},
		{7, 11, 0, 6, fill(96)},
		{7, 11, 1, 5, fill(96)},
		{7, 11, 2, 3, fill(96)},
		{6, 11, 0, 6, fill(96)},
		{0xFFFFFFFF, 11, 3, 0xFFFFFFF7, fill(96)},
		{0xFFFFFFFF, 11, 31, 0x7FFFFFFF, fill(96)},
		{0xFFFFFFFF, 11, 32, 0xFFFFFFFF, fill(96)},
		{0xFFFFFFFF, 11, 33, 0xFFFFFFFF, fill(96)},
		{0xFFFFFFFF, 11, 0x80000000, 0xFFFFFFFF, fill(96)},
		{0xFFFFFFFF, 11, 0xFFFFFFFF, 0xFFFFFFFF, fill(96)},
	} {
		b, m := Out(api.Balloon{Target: 9, Given: c.given}, fill(96), c.port, c.v)
		if b != (api.Balloon{Target: 9, Given: c.want}) || !slices.Equal(m, c.after) {
			t.Errorf("%d: %+v, %x", i, b, m)
		}
	}
}

// checkOut expects what P11.2 says, and a memory that is neither changed nor shared.
func checkOut(t *testing.T, b api.Balloon, m []uint32, port int, v uint32) {
	t.Helper()
	kept, after, want := slices.Clone(m), slices.Clone(m), b
	switch {
	case port == 10 && v < pagesOf(m) && !listed(b.Given, v):
		want.Given += 1 << v
		for i := range uint32(32) {
			after[32*v+i] = 0
		}
	case port == 11 && listed(b.Given, v):
		want.Given -= 1 << v
	}
	got, changed := Out(b, m, port, v)
	if got != want || !slices.Equal(changed, after) {
		t.Fatalf("%d to port %d of %+v, %d words: %+v, want %+v; the memory is right: %v", v, port, b, len(m), got, want, slices.Equal(changed, after))
	}
	spoil(changed)
	if !slices.Equal(m, kept) {
		t.Fatalf("%d to port %d of %+v, %d words: the memory was changed", v, port, b, len(m))
	}
}

// TestOutSets checks P11.2: sets of all kinds with all values, in a memory in which not every frame is a page, and in the greatest one.
func TestOutSets(t *testing.T) {
	for i, given := range sets() {
		for _, v := range values() {
			for _, port := range []int{10, 11} {
				checkOut(t, api.Balloon{Target: uint32(i), Given: given}, fill(160), port, v)
				checkOut(t, api.Balloon{Target: v, Given: given}, fill(1024), port, v)
			}
		}
	}
}

// TestOutMemories checks P11.2: memories of all sizes, and lists that are none; a frame that is no page of them is not given, but can be taken back.
func TestOutMemories(t *testing.T) {
	for _, m := range memories() {
		for _, given := range []uint32{0, 1, 6, 0x80000000, 0xAAAAAAAA, 0xFFFFFFFF} {
			for _, v := range values() {
				checkOut(t, api.Balloon{Target: 3, Given: given}, m, 10, v)
				checkOut(t, api.Balloon{Target: 3, Given: given}, m, 11, v)
			}
		}
	}
}

// TestOtherPorts checks P11.2: no other port changes anything.
func TestOtherPorts(t *testing.T) {
	for _, b := range balloons() {
		for _, port := range ports() {
			for _, v := range []uint32{0, 1, 2, 31, 32, 0xFFFFFFFF} {
				if port == 10 || port == 11 {
					continue
				}
				checkOut(t, b, fill(96), port, v)
				checkOut(t, b, nil, port, v)
			}
		}
	}
}

// TestMayValues checks P11.3 with literal values.
func TestMayValues(t *testing.T) {
	for i, c := range []struct {
		given uint32
		pages int
		want  bool
	}{
		{0, 0, true}, {0, -1, true}, {0, math.MinInt, true}, {0, 32, true}, {0, math.MaxInt, true},
		{1, 0, false}, {1, 1, true}, {1, -1, false}, {1, math.MinInt, false}, {1, 1 - 1<<32, false}, {1, 1 << 32, true},
		{2, 1, false}, {2, 2, true}, {3, 1, false}, {3, 2, true}, {4, 2, false}, {4, 3, true},
		{0x40000000, 30, false}, {0x40000000, 31, true}, {0x80000000, 31, false}, {0x80000000, 32, true},
		{0x80000000, 0, false}, {0x80000000, -1, false}, {0xFFFFFFFF, 31, false}, {0xFFFFFFFF, 32, true},
		{0xFFFFFFFF, 33, true}, {0xFFFFFFFF, 64, true}, {0xFFFFFFFF, 256, true}, {0xFFFFFFFF, math.MaxInt, true}, {0xFFFFFFFF, math.MinInt, false},
	} {
		if got := May(api.Balloon{Given: c.given}, c.pages); got != c.want {
			t.Errorf("%d: %+v: %v", i, c, got)
		}
	}
}

// TestMay checks P11.3: balloons of all kinds with numbers of pages of all kinds; the target does not matter.
func TestMay(t *testing.T) {
	counts := []int{math.MinInt, math.MinInt + 1, -1 << 32, 1 - 1<<32, 32 - 1<<32, -64, -32, -31, -2, -1, 64, 255, 256, 257, 1 << 31, 1<<31 + 1, 1<<32 - 1, 1 << 32, 1<<32 + 1, math.MaxInt}
	for pages := range 40 {
		counts = append(counts, pages)
	}
	for _, b := range balloons() {
		for _, pages := range counts {
			want := true
			for i := range 32 {
				if i >= pages && listed(b.Given, uint32(i)) {
					want = false
				}
			}
			if got := May(b, pages); got != want {
				t.Errorf("%+v, %d pages: %v", b, pages, got)
			}
		}
	}
}

// TestOrdinary checks P11.4: a given frame reads as zero, then as what was written to it, whether it is given again or taken back.
func TestOrdinary(t *testing.T) {
	for frame := range uint32(32) {
		at := frame*128 + 4*(frame%32)
		b, m := Out(api.Balloon{}, fill(1024), api.PortBalloon, frame)
		for addr := frame * 128; addr < frame*128+128; addr += 4 {
			if w, ok := memory.Load(m, addr, 4); w != 0 || !ok {
				t.Errorf("frame %d: %#x at %d, %v", frame, w, addr, ok)
			}
		}
		m, _ = memory.Store(m, at, 4, 0xCAFE0000+frame)
		for _, port := range []int{api.PortBalloon, api.PortDeflate, api.PortDeflate} {
			b, m = Out(b, m, port, frame)
			if w, ok := memory.Load(m, at, 4); w != 0xCAFE0000+frame || !ok {
				t.Errorf("frame %d: %#x after a write to port %d", frame, w, port)
			}
		}
		b, m = Out(b, m, api.PortBalloon, frame)
		if w, ok := memory.Load(m, at, 4); w != 0 || !ok || Count(b) != 1 {
			t.Errorf("frame %d: %#x after it was given anew", frame, w)
		}
	}
}

// TestLife checks P11.1 to P11.4: a guest that gives, takes back and uses frames at random finds what it expects in its memory and in the ports.
func TestLife(t *testing.T) {
	r := rand.New(rand.NewPCG(11, 1))
	for _, pages := range []int{1, 5, 31, 32} {
		b, m, model := api.Balloon{}, fill(32*pages), fill(32*pages)
		given := map[uint32]bool{}
		for range 4000 {
			port, v := 9+r.IntN(4), uint32(r.IntN(pages+2))
			b.Target = uint32(r.IntN(pages + 1))
			before := b.Target
			b, m = Out(b, m, port, v)
			if port == 10 && int(v) < pages && !given[v] {
				given[v] = true
				copy(model[32*v:], make([]uint32, 32))
			}
			if port == 11 {
				delete(given, v)
			}
			if b.Target != before || Count(b) != len(given) || int(In(b, 11)) != len(given) || Pending(b) != (len(given) != int(In(b, 10))) || !May(b, pages) {
				t.Fatalf("%d to port %d, %d pages: %+v, want %v", v, port, pages, b, given)
			}
			if !slices.Equal(m, model) {
				t.Fatalf("%d to port %d, %d pages, %+v: the memory is wrong", v, port, pages, b)
			}
			at, word := r.IntN(len(m)), r.Uint32()
			m[at], model[at] = word, word
		}
	}
}
