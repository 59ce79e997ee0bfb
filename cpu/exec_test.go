package cpu

import (
	"slices"
	"testing"

	"vmfleet/api"
	"vmfleet/isa"
	"vmfleet/memory"
	"vmfleet/paging"
)

// put returns a memory of four pages with the instruction at the address 64.
func put(t *testing.T, i api.Inst) []uint32 {
	t.Helper()
	w, e := isa.Encode(i)
	if e != api.OK {
		t.Fatalf("%+v is no instruction", i)
	}
	m := memory.New(4)
	m[16] = w
	return m
}

// at64 returns a processor in kernel mode at the address 64, with Vector 256.
func at64() api.Cpu {
	c := Reset(64)
	c.Csr[api.CsrVector] = 256
	return c
}

// expectExec also expects that the argument is kept and that the result shares nothing with it.
func expectExec(t *testing.T, name string, c api.Cpu, m []uint32, want api.Cpu, after []uint32, effect api.Effect) {
	t.Helper()
	kept := slices.Clone(m)
	got, gotAfter, gotEffect := Exec(c, m)
	if got != want || gotEffect != effect || !slices.Equal(gotAfter, after) {
		t.Errorf("%s: %+v %+v, want %+v %+v; memories equal: %v", name, got, gotEffect, want, effect, slices.Equal(gotAfter, after))
	}
	expectKept(t, m, kept, gotAfter)
}

// TestExecZeros checks P6.6 with the chapter's example.
func TestExecZeros(t *testing.T) {
	m := memory.New(1)
	want := api.Cpu{Csr: [8]uint32{api.StatusKernel | api.StatusPrevKernel, 0, 0, api.CauseIllegal, 0, 0, 0, 0}}
	expectExec(t, "zeros", Reset(0), m, want, m, api.Effect{})
}

// TestExecResults checks P6.6: instructions that write a register.
func TestExecResults(t *testing.T) {
	for _, x := range []struct {
		i    api.Inst
		want uint32
	}{
		{api.Inst{Op: api.OpAdd, A: 3, B: 1, C: 2}, 2},
		{api.Inst{Op: api.OpSub, A: 3, B: 1, C: 2}, 0xFFFFFFF6},
		{api.Inst{Op: api.OpSub, A: 3, B: 2, C: 1}, 10},
		{api.Inst{Op: api.OpSltu, A: 15, B: 2, C: 1}, 1},
		{api.Inst{Op: api.OpSlt, A: 15, B: 2, C: 1}, 0},
		{api.Inst{Op: api.OpAdd, A: 1, B: 1, C: 1}, 0xFFFFFFF8},
		{api.Inst{Op: api.OpAdd, A: 1, B: 0, C: 2}, 6},
		{api.Inst{Op: api.OpAddi, A: 2, B: 2, Imm: -32768}, 0xFFFF8006},
		{api.Inst{Op: api.OpAddi, A: 4, B: 1, Imm: 32767}, 0x7FFB},
		{api.Inst{Op: api.OpAndi, A: 4, B: 1, Imm: 65535}, 0xFFFC},
		{api.Inst{Op: api.OpOri, A: 4, B: 2, Imm: 32768}, 0x8006},
		{api.Inst{Op: api.OpXori, A: 4, B: 1, Imm: 65535}, 0xFFFF0003},
		{api.Inst{Op: api.OpShli, A: 4, B: 2, Imm: 31}, 0},
		{api.Inst{Op: api.OpShri, A: 4, B: 1, Imm: 28}, 15},
		{api.Inst{Op: api.OpSari, A: 4, B: 1, Imm: 1}, 0xFFFFFFFE},
		{api.Inst{Op: api.OpSlti, A: 4, B: 1, Imm: -3}, 1},
		{api.Inst{Op: api.OpSlti, A: 4, B: 2, Imm: -3}, 0},
		{api.Inst{Op: api.OpLui, A: 4, Imm: 0}, 0},
		{api.Inst{Op: api.OpLui, A: 4, Imm: 65535}, 0xFFFF0000},
		{api.Inst{Op: api.OpLw, A: 4, B: 5, Imm: 0}, 0x80FF7F01},
		{api.Inst{Op: api.OpLw, A: 5, B: 5, Imm: 4}, 0x8182},
		{api.Inst{Op: api.OpLw, A: 4, B: 1, Imm: 260}, 0x80FF7F01},
		{api.Inst{Op: api.OpLb, A: 4, B: 5, Imm: 0}, 1},
		{api.Inst{Op: api.OpLb, A: 4, B: 5, Imm: 1}, 0x7F},
		{api.Inst{Op: api.OpLb, A: 4, B: 5, Imm: 2}, 0xFFFFFFFF},
		{api.Inst{Op: api.OpLb, A: 4, B: 5, Imm: 3}, 0xFFFFFF80},
		{api.Inst{Op: api.OpLbu, A: 4, B: 5, Imm: 2}, 0xFF},
		{api.Inst{Op: api.OpLbu, A: 5, B: 5, Imm: 3}, 0x80},
		{api.Inst{Op: api.OpCsrr, A: 4, Imm: api.CsrVector}, 256},
		{api.Inst{Op: api.OpCsrr, A: 4, Imm: api.CsrStatus}, 1},
	} {
		for _, reg := range []int{x.i.A, 0} {
			i := x.i
			i.A = reg
			m := put(t, i)
			m[64], m[65] = 0x80FF7F01, 0x8182
			c := at64()
			c.X[1], c.X[2], c.X[5] = 0xFFFFFFFC, 6, 256
			want := c
			want.Pc = 68
			if reg != 0 {
				want.X[reg] = x.want
			}
			expectExec(t, isa.Format(i), c, m, want, m, api.Effect{})
		}
	}
}

// TestExecStores checks P6.6: stores change their bytes alone.
func TestExecStores(t *testing.T) {
	for _, x := range []struct {
		i    api.Inst
		at   int
		want uint32
	}{
		{api.Inst{Op: api.OpSw, A: 1, B: 2, Imm: 0}, 32, 0xA1B2C3D4},
		{api.Inst{Op: api.OpSw, A: 2, B: 2, Imm: -128}, 0, 128},
		{api.Inst{Op: api.OpSw, A: 0, B: 2, Imm: 380}, 127, 0},
		{api.Inst{Op: api.OpSw, A: 1, B: 3, Imm: 4}, 0, 0xA1B2C3D4},
		{api.Inst{Op: api.OpSw, A: 1, B: 0, Imm: 64}, 16, 0xA1B2C3D4},
		{api.Inst{Op: api.OpSb, A: 1, B: 2, Imm: 0}, 32, 0xEEEEEED4},
		{api.Inst{Op: api.OpSb, A: 1, B: 2, Imm: 1}, 32, 0xEEEED4EE},
		{api.Inst{Op: api.OpSb, A: 1, B: 2, Imm: 383}, 127, 0xD4EEEEEE},
		{api.Inst{Op: api.OpSb, A: 0, B: 2, Imm: -2}, 31, 0xEE00EEEE},
	} {
		m := put(t, x.i)
		for i := range m {
			if i != 16 {
				m[i] = 0xEEEEEEEE
			}
		}
		c := at64()
		c.X[1], c.X[2], c.X[3] = 0xA1B2C3D4, 128, 0xFFFFFFFC
		want, after := c, slices.Clone(m)
		want.Pc, after[x.at] = 68, x.want
		expectExec(t, isa.Format(x.i), c, m, want, after, api.Effect{})
	}
}

// TestExecJumps checks P6.6: branches and jumps, forward, backward, and around the ends of the words.
func TestExecJumps(t *testing.T) {
	for _, x := range []struct {
		i        api.Inst
		pc, link uint32
	}{
		{api.Inst{Op: api.OpBeq, A: 1, B: 1, Imm: 32767}, 64 + 131068, 0},
		{api.Inst{Op: api.OpBeq, A: 1, B: 2, Imm: 32767}, 68, 0},
		{api.Inst{Op: api.OpBne, A: 1, B: 2, Imm: -16}, 0, 0},
		{api.Inst{Op: api.OpBne, A: 2, B: 2, Imm: -16}, 68, 0},
		{api.Inst{Op: api.OpBlt, A: 1, B: 2, Imm: -32768}, 0xFFFE0040, 0},
		{api.Inst{Op: api.OpBlt, A: 2, B: 1, Imm: 5}, 68, 0},
		{api.Inst{Op: api.OpBlt, A: 2, B: 2, Imm: 5}, 68, 0},
		{api.Inst{Op: api.OpBge, A: 2, B: 1, Imm: 0}, 64, 0},
		{api.Inst{Op: api.OpBge, A: 2, B: 2, Imm: 5}, 84, 0},
		{api.Inst{Op: api.OpBge, A: 1, B: 2, Imm: 5}, 68, 0},
		{api.Inst{Op: api.OpBltu, A: 2, B: 1, Imm: 5}, 84, 0},
		{api.Inst{Op: api.OpBltu, A: 1, B: 2, Imm: 5}, 68, 0},
		{api.Inst{Op: api.OpBltu, A: 1, B: 1, Imm: 5}, 68, 0},
		{api.Inst{Op: api.OpBgeu, A: 1, B: 2, Imm: 5}, 84, 0},
		{api.Inst{Op: api.OpBgeu, A: 1, B: 1, Imm: 1}, 68, 0},
		{api.Inst{Op: api.OpBgeu, A: 2, B: 1, Imm: 5}, 68, 0},
		{api.Inst{Op: api.OpJal, A: 9, Imm: 3}, 76, 68},
		{api.Inst{Op: api.OpJal, A: 9, Imm: -17}, 0xFFFFFFFC, 68},
		{api.Inst{Op: api.OpJal, A: 0, Imm: -32768}, 0xFFFE0040, 0},
		{api.Inst{Op: api.OpJalr, A: 9, B: 2, Imm: 3}, 9, 68},
		{api.Inst{Op: api.OpJalr, A: 2, B: 2, Imm: -7}, 0xFFFFFFFF, 68},
		{api.Inst{Op: api.OpJalr, A: 0, B: 1, Imm: 8}, 4, 0},
		{api.Inst{Op: api.OpJalr, A: 1, B: 0, Imm: -32768}, 0xFFFF8000, 68},
	} {
		c := at64()
		c.X[1], c.X[2] = 0xFFFFFFFC, 6
		want := c
		want.Pc = x.pc
		if x.link != 0 {
			want.X[x.i.A] = x.link
		}
		m := put(t, x.i)
		expectExec(t, isa.Format(x.i), c, m, want, m, api.Effect{})
	}
}

// TestExecEffects checks P6.6: what In, Out, Wfi, Flush and Halt leave to be done.
func TestExecEffects(t *testing.T) {
	for port := range int32(12) {
		for reg := range 16 {
			c := at64()
			for i := 1; i < 16; i++ {
				c.X[i] = uint32(i) * 0x11111111
			}
			want := c
			want.Pc = 68
			in, out := put(t, api.Inst{Op: api.OpIn, A: reg, Imm: port}), put(t, api.Inst{Op: api.OpOut, A: reg, Imm: port})
			expectExec(t, "in", c, in, want, in, api.Effect{Kind: api.EffectIn, Port: int(port), Reg: reg})
			expectExec(t, "out", c, out, want, out, api.Effect{Kind: api.EffectOut, Port: int(port), Value: c.X[reg]})
		}
	}
	for op, kind := range map[int]int{api.OpWfi: api.EffectWait, api.OpFlush: api.EffectFlush, api.OpHalt: api.EffectHalt} {
		c := at64()
		want := c
		want.Pc = 68
		m := put(t, api.Inst{Op: op})
		expectExec(t, isa.Format(api.Inst{Op: op}), c, m, want, m, api.Effect{Kind: kind})
	}
}

// TestExecControl checks P6.6: Csrw keeps the bits that Write keeps, Eret leaves the handler.
func TestExecControl(t *testing.T) {
	kept := [8]uint32{0x1F, 0xFFFFFFFC, 0xFFFFFFFC, 0xFFFFFFFF, 0xFFFFFFFF, 0xFFFFFFFF, 0xFF, 0x1F}
	for csr := range int32(8) {
		for _, v := range []uint32{0, 0xFFFFFFFF, 0x12345678} {
			c := sample(1)
			c.Pc, c.X[0], c.X[7] = 64, 0, v
			want := c
			want.Pc, want.Csr[csr] = 68, v&kept[csr]
			m := put(t, api.Inst{Op: api.OpCsrw, A: 7, Imm: csr})
			expectExec(t, "csrw", c, m, want, m, api.Effect{})
			want = c
			want.Pc, want.X[7] = 68, c.Csr[csr]
			m = put(t, api.Inst{Op: api.OpCsrr, A: 7, Imm: csr})
			expectExec(t, "csrr", c, m, want, m, api.Effect{})
		}
	}
	for _, status := range statuses() {
		c := sample(status | 1)
		c.Pc, c.X[0], c.Csr[api.CsrEpc] = 64, 0, 0x1235
		want := c
		want.Pc, want.Csr[0] = 0x1235, (status|1)&^3|status>>3&3
		m := put(t, api.Inst{Op: api.OpEret})
		expectExec(t, "eret", c, m, want, m, api.Effect{})
	}
}

// TestExecTraps checks P6.6: the order of the steps, and the cause and Bad of each trap, in all modes.
func TestExecTraps(t *testing.T) {
	for _, x := range []struct {
		name        string
		word        uint32
		cause, bad  uint32
		trapsKernel bool
	}{
		{name: "no operation", word: 0, cause: api.CauseIllegal, trapsKernel: true},
		{name: "operation 65", word: 0x41000000, cause: api.CauseIllegal, bad: 0x41000000, trapsKernel: true},
		{name: "add with bits beside C", word: 0x01120013, cause: api.CauseIllegal, bad: 0x01120013, trapsKernel: true},
		{name: "shli by 32", word: 0x14120020, cause: api.CauseIllegal, bad: 0x14120020, trapsKernel: true},
		{name: "halt with an operand", word: 0x40000001, cause: api.CauseIllegal, bad: 0x40000001, trapsKernel: true},
		{name: "in of port 12", word: 0x3C10000C, cause: api.CauseIllegal, bad: 0x3C10000C, trapsKernel: true},
		{name: "csrr of register 8", word: 0x3A100008, cause: api.CauseIllegal, bad: 0x3A100008, trapsKernel: true},
		{name: "ecall", word: 0x38000000, cause: api.CauseEcall, trapsKernel: true},
		{name: "eret", word: 0x39000000, cause: api.CausePrivileged, bad: 0x39000000},
		{name: "csrr", word: 0x3A100000, cause: api.CausePrivileged, bad: 0x3A100000},
		{name: "csrw", word: 0x3B100007, cause: api.CausePrivileged, bad: 0x3B100007},
		{name: "in", word: 0x3C10000B, cause: api.CausePrivileged, bad: 0x3C10000B},
		{name: "out", word: 0x3D100000, cause: api.CausePrivileged, bad: 0x3D100000},
		{name: "wfi", word: 0x3E000000, cause: api.CausePrivileged, bad: 0x3E000000},
		{name: "flush", word: 0x3F000000, cause: api.CausePrivileged, bad: 0x3F000000},
		{name: "halt", word: 0x40000000, cause: api.CausePrivileged, bad: 0x40000000},
		{name: "lw r2, 0(r1)", word: 0x20210000, cause: api.CauseMisaligned, bad: 510, trapsKernel: true},
		{name: "lw r0, 2(r1)", word: 0x20010002, cause: api.CauseLoad, bad: 512, trapsKernel: true},
		{name: "lb r1, 2(r1)", word: 0x21110002, cause: api.CauseLoad, bad: 512, trapsKernel: true},
		{name: "lbu r2, -1(r0)", word: 0x2220FFFF, cause: api.CauseLoad, bad: 0xFFFFFFFF, trapsKernel: true},
		{name: "sw r2, 3(r1)", word: 0x23210003, cause: api.CauseMisaligned, bad: 513, trapsKernel: true},
		{name: "sw r2, 2(r1)", word: 0x23210002, cause: api.CauseStore, bad: 512, trapsKernel: true},
		{name: "sb r2, -32768(r1)", word: 0x24218000, cause: api.CauseStore, bad: 0xFFFF81FE, trapsKernel: true},
	} {
		for _, status := range statuses() {
			if status&4 != 0 || status&1 == 1 && !x.trapsKernel {
				continue
			}
			c := sample(status)
			c.Pc, c.X[0], c.X[1] = 64, 0, 510
			m := memory.New(4)
			m[16] = x.word
			want := c
			want.Pc = 0x2008
			want.Csr = [8]uint32{status&0xFFFFFFE4 | 1 | status&1<<3 | status>>1&1<<4, 0x2008, 64, x.cause, x.bad, 0x6018, 0x701C, 0x8020}
			expectExec(t, x.name, c, m, want, m, api.Effect{})
		}
	}
}

// TestExecFetchFaults checks P6.6, step 1: Bad is Pc, and the memory stays as it is.
func TestExecFetchFaults(t *testing.T) {
	table, _ := paging.Map(memory.New(4), 3, 5, 1, api.PteValid|api.PteWrite)
	for _, x := range []struct {
		status, pc, cause uint32
	}{
		{1, 512, api.CauseFetch}, {1, 6, api.CauseMisaligned}, {1, 0xFFFFFFFC, api.CauseFetch}, {1, 0xFFFFFFFF, api.CauseMisaligned},
		{0, 512, api.CauseFetch}, {4, 0, api.CauseFetch}, {4, 5 * 128, api.CauseFetch}, {4, 5*128 + 2, api.CauseMisaligned}, {4, 4096, api.CauseFetch},
	} {
		c := sample(x.status)
		c.X[0], c.Pc, c.Csr[api.CsrRoot] = 0, x.pc, 3
		want := c
		want.Pc = 0x2008
		want.Csr = [8]uint32{x.status&4 | 1 | x.status&1<<3, 0x2008, x.pc, x.cause, x.pc, 0x6018, 3, 0x8020}
		expectExec(t, "fetch", c, table, want, table, api.Effect{})
	}
}

// virtual returns a user-mode processor at the virtual address 0, which is the frame 0 that has the words; its page table is frame 1, its page 1 the frame 2, with the flags.
func virtual(flags uint32, words ...uint32) (api.Cpu, []uint32) {
	m, _ := paging.Map(memory.New(3), 1, 0, 0, api.PteValid|api.PteExec)
	m, _ = paging.Map(m, 1, 1, 2, flags)
	copy(m, words)
	c := api.Cpu{Csr: [8]uint32{api.StatusPaging, 256, 0, 0, 0, 0, 1}}
	c.X[1], c.X[2] = 128, 0xA1B2C3D4
	return c, m
}

// TestExecVirtual checks P6.6: the bits that fetches, loads and stores set, also if they trap afterwards.
func TestExecVirtual(t *testing.T) {
	const lw, sw, misaligned, illegal, ecall, halt = 0x20310004, 0x23210004, 0x23210005, 0x00000007, 0x38000000, 0x40000000
	for _, x := range []struct {
		name               string
		word, flags        uint32
		entry0, entry1     uint32
		cause, bad, stored uint32
	}{
		{"load", lw, 1, 0x00D, 0x209, 0, 0, 77},
		{"store", sw, 3, 0x00D, 0x21B, 0, 0, 0xA1B2C3D4},
		{"load of an invalid page", lw, 30, 0x00D, 0x21E, api.CauseLoad, 132, 77},
		{"store to a read-only page", sw, 5, 0x00D, 0x205, api.CauseStore, 132, 77},
		{"misaligned store", misaligned, 3, 0x00D, 0x203, api.CauseMisaligned, 133, 77},
		{"no instruction", illegal, 3, 0x00D, 0x203, api.CauseIllegal, illegal, 77},
		{"privileged", halt, 3, 0x00D, 0x203, api.CausePrivileged, halt, 77},
		{"ecall", ecall, 3, 0x00D, 0x203, api.CauseEcall, 0, 77},
	} {
		c, m := virtual(x.flags, x.word)
		m[65] = 77
		want, after := c, slices.Clone(m)
		want.Pc = 4
		after[32], after[33], after[65] = x.entry0, x.entry1, x.stored
		if x.word == lw && x.cause == 0 {
			want.X[3] = 77
		}
		if x.cause != 0 {
			want.Pc = 256
			want.Csr = [8]uint32{api.StatusKernel | api.StatusPaging, 256, 0, x.cause, x.bad, 0, 1, 0}
		}
		expectExec(t, x.name, c, m, want, after, api.Effect{})
	}
}

// TestExecOwnEntry checks P6.6: an access to the page-table entry that it uses itself.
func TestExecOwnEntry(t *testing.T) {
	// Page 1 is the page table: its entry is at 132, the physical address 128 + 4.
	c, m := virtual(0, 0x20310004, 0x22310004, 0x23210004, 0x24210004, 0x24210005)
	m[33] = 0x00000103
	for i, x := range []struct{ x3, entry uint32 }{{0x10B, 0x10B}, {0x0B, 0x10B}, {0, 0xA1B2C3D4}, {0, 0x1D4}, {0, 0xD41B}} {
		c.Pc = uint32(i) * 4
		want, after := c, slices.Clone(m)
		want.Pc, want.X[3] = c.Pc+4, x.x3
		after[32], after[33] = 0x00D, x.entry
		expectExec(t, "entry", c, m, want, after, api.Effect{})
	}
	// The entry of the code's page is an instruction itself: addi r1, r2, 0x105 until the fetch sets PteAccessed.
	c, m = virtual(0)
	m[34] = 0x10120105
	c.Pc = 2*128 + 8
	want, after := c, slices.Clone(m)
	want.Pc, want.X[1], after[34] = c.Pc+4, 0xA1B2C3D4+0x10D, 0x1012010D
	expectExec(t, "an entry as an instruction", c, m, want, after, api.Effect{})
}

// TestExecUser checks P6.6: user mode without paging accesses physical addresses, and executes all that is not privileged.
func TestExecUser(t *testing.T) {
	m := memory.New(2)
	copy(m[32:], []uint32{0x10100007, 0x23100010, 0x20200010, 0x30300001})
	c := api.Cpu{Pc: 128}
	var e api.Effect
	for range 4 {
		if c, m, e = Exec(c, m); e != (api.Effect{}) {
			t.Errorf("effect %+v", e)
		}
	}
	if c != (api.Cpu{X: [16]uint32{1: 7, 2: 7, 3: 144}, Pc: 144}) || m[4] != 7 {
		t.Errorf("%+v, %d", c, m[4])
	}
}

// TestTrapsChangeLittle checks P6.7: a trapping instruction changes Pc, Status, Epc, Cause, Bad and an accessed bit at most, and register 0 stays 0.
func TestTrapsChangeLittle(t *testing.T) {
	s := newSource(7)
	traps := 0
	s.trials(6000, func(c api.Cpu, m []uint32) {
		c.Csr[api.CsrCause] = 99
		got, after, e := Exec(c, m)
		if got.X[0] != 0 {
			t.Fatalf("register 0 is %#x", got.X[0])
		}
		if got.Csr[api.CsrCause] == 99 || got.Csr[api.CsrCause] > 7 || got.Pc != c.Csr[api.CsrVector] {
			return
		}
		traps++
		if got.X != c.X || got.Csr[1] != c.Csr[1] || !slices.Equal(got.Csr[5:], c.Csr[5:]) || got.Csr[api.CsrEpc] != c.Pc || e != (api.Effect{}) {
			t.Fatalf("%+v became %+v, %+v", c, got, e)
		}
		changed := 0
		for i := range m {
			if m[i] != after[i] {
				changed++
				if after[i] != m[i]|api.PteAccessed || uint32(i)/32 != c.Csr[api.CsrRoot] {
					t.Fatalf("word %d: %#x became %#x", i, m[i], after[i])
				}
			}
		}
		if changed > 1 {
			t.Fatalf("%d words changed", changed)
		}
	})
	if traps < 5000 {
		t.Errorf("%d traps: the test compares too little", traps)
	}
}
