package cpu

import (
	"math"
	"slices"
	"testing"

	"vmfleet/api"
	"vmfleet/bits"
	"vmfleet/memory"
	"vmfleet/paging"
)

// noMemories are lengths of lists of words that are not memories.
var noMemories = []int{0, 1, 3, 31, 33, 63, 65, 1023, 1025, 33 * 32, 34 * 32, 64 * 32}

// others are numbers that are neither a kind of access nor the size of one.
var others = []int{math.MinInt, math.MinInt + 1, -1 << 32, -4, -1, 0, 5, 6, 7, 8, 16, 255, 256, 257, 1 << 32, 1<<32 + 1, 1<<32 + 2, 1<<32 + 3, 1<<32 + 4, math.MaxInt}

// words are operands: limits of ranges, and numbers between them.
var words = []uint32{0, 1, 2, 3, 4, 7, 30, 31, 32, 33, 63, 64, 0x7F, 0x80, 0xFF, 0x100, 0x7FFF, 0x8000, 0xFFFF, 0x10000, 0x12345678, 0x3FFFFFFF, 0x40000000, 0x7FFFFFFE, 0x7FFFFFFF, 0x80000000, 0x80000001, 0x9ABCDEF0, 0xC0000000, 0xFFFF7FFF, 0xFFFF8000, 0xFFFFFF80, 0xFFFFFFE0, 0xFFFFFFE1, 0xFFFFFFF0, 0xFFFFFFF9, 0xFFFFFFFD, 0xFFFFFFFE, 0xFFFFFFFF}

// statuses are all values of the five bits, alone and with all other bits.
func statuses() []uint32 {
	var list []uint32
	for status := range uint32(32) {
		list = append(list, status, status|0xFFFFFFE0)
	}
	return list
}

// sample is a processor whose fields differ from each other.
func sample(status uint32) api.Cpu {
	c := api.Cpu{Pc: 0x1004, Csr: [8]uint32{status, 0x2008, 0x300C, 0x4010, 0x5014, 0x6018, 0x701C, 0x8020}}
	for i := range c.X {
		c.X[i] = uint32(i) * 0x01010101
	}
	return c
}

// fill returns n words whose bits follow no rule.
func fill(n int, seed uint64) []uint32 {
	list := make([]uint32, n)
	for i := range list {
		var value uint64
		value, seed = bits.Next(seed)
		list[i] = uint32(value)
	}
	return list
}

// expectKept expects that m is as it was, kept, and shares no words with a result.
func expectKept(t *testing.T, m, kept, result []uint32) {
	t.Helper()
	for i := range result {
		result[i] = ^result[i]
	}
	if !slices.Equal(m, kept) {
		t.Fatalf("%d words: the argument was modified, or the result shares words with it", len(kept))
	}
}

// TestReset checks P6.1.
func TestReset(t *testing.T) {
	for _, pc := range append(words, 5, 4092, 4096) {
		if got := Reset(pc); got != (api.Cpu{Pc: pc, Csr: [8]uint32{1, 0, 0, 0, 0, 0, 0, 0}}) {
			t.Errorf("Reset(%#x): %+v", pc, got)
		}
	}
}

// TestAlu checks P6.2 with literal values.
func TestAlu(t *testing.T) {
	for _, c := range []struct {
		op         int
		a, b, want uint32
	}{
		{api.OpAdd, 0xFFFFFFFF, 2, 1}, {api.OpAddi, 5, 0xFFFFFFFF, 4},
		{api.OpSub, 3, 5, 0xFFFFFFFE}, {api.OpSub, 0, 0x80000000, 0x80000000}, {api.OpSub, 7, 0, 7},
		{api.OpAnd, 0xF0F0, 0xFF00, 0xF000}, {api.OpAndi, 0xFFFFFFFF, 0x8001, 0x8001},
		{api.OpOr, 0xF0F0, 0xFF00, 0xFFF0}, {api.OpOri, 0x80000000, 1, 0x80000001},
		{api.OpXor, 0xF0F0, 0xFF00, 0x0FF0}, {api.OpXori, 0xFFFFFFFF, 0xFFFF, 0xFFFF0000},
		{api.OpShl, 0x80000003, 1, 6}, {api.OpShl, 3, 32, 3}, {api.OpShl, 3, 0xFFFFFFFF, 0x80000000}, {api.OpShli, 1, 31, 0x80000000},
		{api.OpShr, 0x80000003, 1, 0x40000001}, {api.OpShr, 0x80000000, 33, 0x40000000}, {api.OpShri, 0x80000000, 31, 1},
		{api.OpSar, 0x80000003, 1, 0xC0000001}, {api.OpSar, 0x80000000, 0xFFFFFFFF, 0xFFFFFFFF}, {api.OpSari, 0x7FFFFFFF, 30, 1},
		{api.OpMul, 0x10001, 0x10001, 0x20001}, {api.OpMul, 0xFFFFFFFF, 0xFFFFFFFF, 1},
		{api.OpDiv, 0xFFFFFFF9, 2, 0xFFFFFFFD}, {api.OpDiv, 7, 0, 0xFFFFFFFF}, {api.OpDiv, 0x80000000, 0xFFFFFFFF, 0x80000000},
		{api.OpRem, 0xFFFFFFF9, 2, 0xFFFFFFFF}, {api.OpRem, 7, 0, 7}, {api.OpRem, 0x80000000, 0xFFFFFFFF, 0},
		{api.OpSlt, 0x80000000, 0x7FFFFFFF, 1}, {api.OpSlt, 0x7FFFFFFF, 0x80000000, 0}, {api.OpSlt, 4, 4, 0}, {api.OpSlti, 0xFFFFFFFF, 0, 1}, {api.OpSlti, 0, 0xFFFFFFFF, 0},
		{api.OpSltu, 0x80000000, 0x7FFFFFFF, 0}, {api.OpSltu, 0x7FFFFFFF, 0x80000000, 1}, {api.OpSltu, 4, 4, 0},
	} {
		if got, ok := Alu(c.op, c.a, c.b); got != c.want || !ok {
			t.Errorf("operation %d of %#x and %#x: %#x, %v, want %#x", c.op, c.a, c.b, got, ok, c.want)
		}
	}
}

// TestAluModel checks P6.2: every operation, with pairs of limits and of random numbers.
func TestAluModel(t *testing.T) {
	operands := append(fill(40, 9), words...)
	for op := range uint32(24) {
		plain := op
		if number, ok := withNumber[op]; ok {
			plain = number
		}
		compute, known := arithmetic[plain]
		for _, a := range operands {
			for _, b := range operands {
				want := uint32(0)
				if known {
					want = uint32(compute(signed(a), signed(b)))
				}
				if got, ok := Alu(int(op), a, b); got != want || ok != known {
					t.Fatalf("operation %d of %#x and %#x: %#x, %v, want %#x, %v", op, a, b, got, ok, want, known)
				}
			}
		}
	}
}

// TestAluNone checks P6.2: numbers that are no arithmetic operation have no result.
func TestAluNone(t *testing.T) {
	list := []int{math.MinInt, math.MinInt + 1, -1<<32 + 1, -16, -1, 1<<32 + 1, 1<<32 + 16, 1 << 62, math.MaxInt}
	for op := 24; op < 600; op++ {
		list = append(list, op)
	}
	for _, op := range append(list, 0, 14, 15) {
		if got, ok := Alu(op, 6, 3); got != 0 || ok {
			t.Errorf("operation %d: %#x, %v", op, got, ok)
		}
	}
}

// TestTrap checks P6.3, Trap, with literal values.
func TestTrap(t *testing.T) {
	c := sample(api.StatusIrq | api.StatusPaging | api.StatusPrevKernel)
	want := c
	want.Pc = 0x2008
	want.Csr = [8]uint32{api.StatusKernel | api.StatusPaging | api.StatusPrevIrq, 0x2008, 0x1004, api.CauseStore, 0x1234, 0x6018, 0x701C, 0x8020}
	if got := Trap(c, api.CauseStore, 0x1234); got != want {
		t.Errorf("%+v, want %+v", got, want)
	}
	for cause, want := range map[int]uint32{0: 0, 7: 7, 20: 20, -1: 0xFFFFFFFF, 1 << 32: 0, 1<<32 + 5: 5, math.MinInt: 0, math.MaxInt: 0xFFFFFFFF} {
		if got := Trap(c, cause, 0).Csr[api.CsrCause]; got != want {
			t.Errorf("cause %d: %#x, want %#x", cause, got, want)
		}
	}
}

// TestTrapStatus checks P6.3, Trap and Return: every status, whose other bits stay.
func TestTrapStatus(t *testing.T) {
	for _, status := range statuses() {
		c := sample(status)
		kernel, irq, prevKernel, prevIrq := status&1, status>>1&1, status>>3&1, status>>4&1
		want := c
		want.Pc = 0x2008
		want.Csr = [8]uint32{status&0xFFFFFFE4 | 1 | kernel<<3 | irq<<4, 0x2008, 0x1004, 9, 8, 0x6018, 0x701C, 0x8020}
		if got := Trap(c, 9, 8); got != want {
			t.Errorf("trap with status %#x: %+v, want %+v", status, got, want)
		}
		want = c
		want.Pc = 0x300C
		want.Csr[0] = status&0xFFFFFFFC | prevKernel | prevIrq<<1
		if got := Return(c); got != want {
			t.Errorf("return with status %#x: %+v, want %+v", status, got, want)
		}
	}
}

// TestTrapThenReturn checks P6.3: a handler that returns leaves the mode, the interrupts and Pc as they were.
func TestTrapThenReturn(t *testing.T) {
	for _, status := range statuses() {
		c := sample(status)
		got := Return(Trap(c, 1, 2))
		if got.Pc != c.Pc || (got.Csr[0]^status)&^(8|16) != 0 || got.X != c.X {
			t.Errorf("status %#x: %+v", status, got)
		}
	}
	c := sample(0)
	c.Pc, c.Csr[api.CsrEpc] = 7, 5
	if Return(c).Pc != 5 || Trap(c, 1, 2).Csr[api.CsrEpc] != 7 {
		t.Error("an address is not kept as it is")
	}
}

// TestWrite checks P6.3, Write: every bit of every control register.
func TestWrite(t *testing.T) {
	kept := [8]uint32{0x1F, 0xFFFFFFFC, 0xFFFFFFFC, 0xFFFFFFFF, 0xFFFFFFFF, 0xFFFFFFFF, 0xFF, 0x1F}
	values := slices.Clone(words)
	for bit := range 32 {
		values = append(values, 1<<bit, ^uint32(1<<bit))
	}
	for csr := range 8 {
		for _, v := range values {
			c := sample(0xFFFFFFFF)
			want := c
			want.Csr[csr] = v & kept[csr]
			if got := Write(c, csr, v); got != want {
				t.Errorf("register %d, value %#x: %+v, want %+v", csr, v, got, want)
			}
		}
	}
	for _, csr := range append(others, 9, 15, -8, math.MinInt32) {
		if csr >= 0 && csr < 8 {
			continue
		}
		if c := sample(3); Write(c, csr, 0x55) != c {
			t.Errorf("register %d was written", csr)
		}
	}
}

// expectResolve also expects that the argument is kept and that the result shares nothing with it. A nil memory stands for the one before.
func expectResolve(t *testing.T, c api.Cpu, m []uint32, va uint32, size, access int, addr uint32, after []uint32, cause int) {
	t.Helper()
	kept := slices.Clone(m)
	if after == nil {
		after = kept
	}
	gotAddr, got, gotCause := Resolve(c, m, va, size, access)
	if gotAddr != addr || gotCause != cause || !slices.Equal(got, after) {
		t.Errorf("status %#x, %d words, va %#x, size %d, access %d: %#x, cause %d, want %#x, cause %d; memories equal: %v", c.Csr[0], len(m), va, size, access, gotAddr, gotCause, addr, cause, slices.Equal(got, after))
	}
	expectKept(t, m, kept, got)
}

// TestResolvePhysical checks P6.4: every address, in the three combinations of modes that do not translate.
func TestResolvePhysical(t *testing.T) {
	for _, pages := range []int{1, 2, 31, 32} {
		m := fill(32*pages, uint64(pages))
		for _, status := range []uint32{0, 1, 5, 0xFFFFFFFB} {
			c := sample(status)
			c.Csr[api.CsrRoot] = 0
			for va := range uint32(128*pages + 9) {
				within := va < uint32(128*pages)
				for access, cause := range map[int]int{1: 4, 2: 5, 3: 6} {
					if within {
						expectResolve(t, c, m, va, 1, access, va, nil, 0)
					} else {
						expectResolve(t, c, m, va, 1, access, 0, nil, cause)
					}
					if va%4 != 0 {
						expectResolve(t, c, m, va, 4, access, 0, nil, 3)
					} else if within {
						expectResolve(t, c, m, va, 4, access, va, nil, 0)
					} else {
						expectResolve(t, c, m, va, 4, access, 0, nil, cause)
					}
				}
			}
		}
	}
}

// TestResolveBeyond checks P6.4: great addresses, and addresses in lists that are not memories, fail in every mode.
func TestResolveBeyond(t *testing.T) {
	for _, n := range append(noMemories, 32, 1024) {
		m := slices.Repeat([]uint32{31}, n)
		for _, status := range []uint32{0, 1, 4, 5} {
			c := sample(status)
			c.Csr[api.CsrRoot] = 0
			for _, va := range []uint32{4096, 4100, 1 << 16, 1<<31 - 4, 1 << 31, 0xFFFFFF80, 0xFFFFFFFC} {
				for access, cause := range map[int]int{1: 4, 2: 5, 3: 6} {
					expectResolve(t, c, m, va, 4, access, 0, nil, cause)
					expectResolve(t, c, m, va+3, 1, access, 0, nil, cause)
					expectResolve(t, c, m, va+2, 4, access, 0, nil, 3)
					if n != 32 && n != 1024 {
						expectResolve(t, c, m, 0, 4, access, 0, nil, cause)
						expectResolve(t, c, m, 5, 1, access, 0, nil, cause)
					}
				}
			}
		}
	}
}

// TestResolveInvalid checks P6.4: an unknown access or size comes before a misaligned address, and that before a fault.
func TestResolveInvalid(t *testing.T) {
	for _, status := range []uint32{0, 1, 4, 5} {
		c := sample(status)
		c.Csr[api.CsrRoot] = 0
		m := slices.Repeat([]uint32{7}, 64)
		for _, va := range []uint32{0, 1, 4, 6, 255, 256, 4097, 0xFFFFFFFF} {
			for _, other := range append(others, 4) {
				expectResolve(t, c, m, va, 4, other, 0, nil, 5)
				expectResolve(t, c, m, va, 1, other, 0, nil, 5)
			}
			for _, other := range append(others, 2, 3) {
				for access := range 5 {
					expectResolve(t, c, m, va, other, access, 0, nil, 5)
				}
			}
			for access := 1; access <= 3; access++ {
				if va%4 != 0 {
					expectResolve(t, c, m, va, 4, access, 0, nil, 3)
				}
			}
		}
	}
}

// TestResolveVirtual checks P6.4: every set of flags with every kind of access, in user mode with and without paging and in kernel mode.
func TestResolveVirtual(t *testing.T) {
	for flags := range uint32(32) {
		m := fill(4*32, uint64(flags))
		m[32+7] = 0xABCD0200 | flags
		for access, cause := range map[int]int{1: 4, 2: 5, 3: 6} {
			after := slices.Clone(m)
			after[32+7] |= map[int]uint32{1: 8, 2: 8, 3: 24}[access]
			needed := map[int]uint32{1: 5, 2: 1, 3: 3}[access]
			for _, status := range statuses() {
				c := sample(status)
				c.Csr[api.CsrRoot] = 1
				for offset := range uint32(8) {
					for _, size := range []int{1, 4} {
						va := 7*128 + 40 + offset
						switch {
						case size == 4 && offset%4 != 0:
							expectResolve(t, c, m, va, size, access, 0, nil, 3)
						case status&5 != 4 || flags&needed != needed:
							expectResolve(t, c, m, va, size, access, 0, nil, cause)
						default:
							expectResolve(t, c, m, va, size, access, 2*128+40+offset, after, 0)
						}
					}
				}
			}
		}
	}
}

// TestResolveModel checks P6.4 with random page tables, processors and accesses.
func TestResolveModel(t *testing.T) {
	s := newSource(5)
	good := 0
	s.trials(6000, func(c api.Cpu, m []uint32) {
		va, size, access := s.number(), pick(s, 1, 4, 4, 2), 1+s.IntN(3)
		want := &model{cpu: c, mem: bytesOf(m)}
		addr, cause := want.tryResolve(va, size, access)
		if cause == 0 {
			good++
		}
		got, after, gotCause := Resolve(c, m, va, size, access)
		if got != addr || gotCause != cause || !slices.Equal(bytesOf(after), want.mem) {
			t.Fatalf("status %#x, root %d, va %#x, size %d, access %d: %#x, cause %d, want %#x, cause %d", c.Csr[0], c.Csr[6], va, size, access, got, gotCause, addr, cause)
		}
	})
	if good < 5000 || good > 55000 {
		t.Errorf("%d accesses succeed: the test compares too little", good)
	}
}

// tryResolve returns the address, or the cause of the trap.
func (s *model) tryResolve(va uint32, size, access int) (addr uint32, cause int) {
	defer func() {
		if t, ok := recover().(trap); ok {
			cause = t.cause
		}
	}()
	return s.resolve(va, size, access, 0), 0
}

// TestFetch checks P6.5 with literal values.
func TestFetch(t *testing.T) {
	m := make([]uint32, 3*32)
	m[0], m[9], m[95] = 0x11223344, 0x10100007, 0x55667788
	m[32+4], m[32+5], m[32+6] = 0x00000205, 0x00000203, 0x00000100
	touched := slices.Clone(m)
	touched[32+4] = 0x0000020D
	for _, x := range []struct {
		status, pc uint32
		word       uint32
		after      []uint32
		cause      int
	}{
		{1, 0, 0x11223344, m, 0},
		{0, 36, 0x10100007, m, 0},
		{5, 380, 0x55667788, m, 0},
		{1, 384, 0, m, api.CauseFetch},
		{1, 0xFFFFFFFC, 0, m, api.CauseFetch},
		{1, 1, 0, m, api.CauseMisaligned},
		{0, 386, 0, m, api.CauseMisaligned},
		{4, 4*128 + 124, 0x55667788, touched, 0},
		{4, 4*128 + 120, 0, touched, 0},
		{4, 4*128 + 121, 0, m, api.CauseMisaligned},
		{4, 5*128 + 124, 0, m, api.CauseFetch},
		{4, 6*128 + 124, 0, m, api.CauseFetch},
		{4, 4096, 0, m, api.CauseFetch},
		{5, 4*128 + 124, 0, m, api.CauseFetch},
	} {
		c := sample(x.status)
		c.Pc, c.Csr[api.CsrRoot] = x.pc, 1
		kept := slices.Clone(m)
		word, after, cause := Fetch(c, m)
		if word != x.word || !slices.Equal(after, x.after) || cause != x.cause {
			t.Errorf("status %d, Pc %d: %#x, cause %d, entry %#x", x.status, x.pc, word, cause, after[36])
		}
		expectKept(t, m, kept, after)
	}
}

// TestFetchOwnEntry checks P6.5: the word is read after the walker has set a bit of it.
func TestFetchOwnEntry(t *testing.T) {
	m, _ := paging.Map(memory.New(2), 1, 3, 1, api.PteValid|api.PteExec)
	c := api.Cpu{Pc: 3*128 + 12, Csr: [8]uint32{api.StatusPaging, 0, 0, 0, 0, 0, 1}}
	if word, after, cause := Fetch(c, m); word != 0x10D || after[35] != 0x10D || cause != 0 {
		t.Errorf("%#x, cause %d, entry %#x", word, cause, after[35])
	}
}

// TestFetchNoMemory checks P6.5: lists of words that are not memories have no word to fetch.
func TestFetchNoMemory(t *testing.T) {
	for _, n := range noMemories {
		m := slices.Repeat([]uint32{31}, n)
		kept := slices.Clone(m)
		for status, pc := range map[uint32]uint32{0: 0, 1: 4, 4: 0, 5: 64} {
			c := sample(status)
			c.Pc, c.Csr[api.CsrRoot] = pc, 0
			word, after, cause := Fetch(c, m)
			if word != 0 || cause != api.CauseFetch || !slices.Equal(after, kept) {
				t.Errorf("%d words, status %d: %#x, cause %d", n, status, word, cause)
			}
			expectKept(t, m, kept, after)
		}
	}
}
