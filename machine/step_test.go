package machine

import (
	"math"
	"reflect"
	"slices"
	"strings"
	"testing"

	"vmfleet/api"
	"vmfleet/cpu"
	"vmfleet/isa"
)

// encode returns an instruction word.
func encode(t *testing.T, i api.Inst) uint32 {
	t.Helper()
	word, err := isa.Encode(i)
	if err != api.OK {
		t.Fatal(i)
	}
	return word
}

// checkStep executes a step and checks the machine and the outputs, and that the result shares nothing with the argument.
func checkStep(t *testing.T, name string, m api.Machine, clock uint32, want api.Machine, wantOutputs []api.Output) {
	t.Helper()
	before := duplicate(m)
	got, outputs := Step(m, clock)
	if !equal(got, want) {
		t.Errorf("%s:\n got %v\nwant %v", name, got, want)
	}
	if !slices.Equal(outputs, wantOutputs) {
		t.Errorf("%s: outputs %v, want %v", name, outputs, wantOutputs)
	}
	if !May(got) {
		t.Errorf("%s: the machine is not valid any more", name)
	}
	spoil(got.Mem)
	if !equal(m, before) {
		t.Errorf("%s: Step changes or shares its argument", name)
	}
}

// TestStepExample checks the example of the chapter.
func TestStepExample(t *testing.T) {
	m, _ := New(1, 0, nil)
	want := duplicate(m)
	want.Cpu.Csr = [api.NumCsr]uint32{api.StatusKernel | api.StatusPrevKernel, 0, 0, api.CauseIllegal}
	want.Count = 1
	checkStep(t, "empty image", m, 0, want, nil)
}

// TestStepRefuses checks P12.4: machines that execute nothing.
func TestStepRefuses(t *testing.T) {
	for name, edit := range map[string]func(m *api.Machine){
		"not valid":                  func(m *api.Machine) { m.Cpu.X[0] = 1 },
		"no memory":                  func(m *api.Machine) { m.Mem = nil },
		"halted":                     func(m *api.Machine) { m.Halted = true },
		"halted with a line":         func(m *api.Machine) { m.Halted, m.Console.Keys = true, "x" },
		"idle":                       func(m *api.Machine) { m.Waiting = true },
		"idle, interrupts disabled":  func(m *api.Machine) { m.Waiting, m.Cpu.Csr[0] = true, 1 },
		"idle with a line":           func(m *api.Machine) { m.Waiting, m.Balloon.Target = true, 1 },
		"Count MaxCount":             func(m *api.Machine) { m.Count = api.MaxCount },
		"Count MaxCount and waiting": func(m *api.Machine) { m.Count, m.Waiting, m.Console.Keys = api.MaxCount, true, "x" },
	} {
		for _, source := range []string{"out r0, 0", "in r1, 2", "in r1, 0", "nop", "halt", "sw r0, 0(r0)"} {
			m := boot(t, source)
			m.Cpu.Csr[api.CsrStatus] |= api.StatusIrq
			m.Cpu.Csr[api.CsrEnable] = 1 << api.LineConsole
			edit(&m)
			unchanged(t, name+": "+source, m)
		}
	}
}

// TestStepLast checks P12.4 at the greatest Count before which a machine executes.
func TestStepLast(t *testing.T) {
	m := boot(t, "out r0, 0")
	m.Count = api.MaxCount - 1
	want := duplicate(m)
	want.Cpu.Pc, want.Count = 4, api.MaxCount
	checkStep(t, "last step", m, 0, want, []api.Output{{Kind: api.OutByte, At: api.MaxCount - 1, Data: "\x00"}})
	unchanged(t, "after the last step", want)
}

// ported returns a valid machine whose ports all have different values.
func ported(t *testing.T) api.Machine {
	t.Helper()
	m := boot(t, "nop")
	m.Console.Keys = "\xe9bc"
	m.Timer = api.Timer{Fired: true, Deadline: 21}
	m.Disk = api.Disk{Blocks: 3, Block: 0x80000004, Frame: 0x90000005, State: api.DiskDone}
	m.Nic = api.Nic{Frame: 0xA0000006, Len: 0xB0000007, Received: true, Got: 77}
	m.Balloon = api.Balloon{Target: 0xC0000008, Given: 15}
	m.Count = 1000
	for i := 1; i < 16; i++ {
		m.Cpu.X[i] = 0xDD000000 + uint32(i)
	}
	return m
}

// TestIn checks P12.4, EffectIn: every port into every register.
func TestIn(t *testing.T) {
	const clock = 0xFEDCBA98
	values := []uint32{0xE9, 3, clock, 1, 0x80000004, 0x90000005, api.DiskDone, 0xA0000006, 77, 2, 0xC0000008, 4}
	for port, value := range values {
		for reg := range 16 {
			m := ported(t)
			m.Mem[0] = encode(t, api.Inst{Op: api.OpIn, A: reg, Imm: int32(port)})
			want := duplicate(m)
			want.Cpu.Pc, want.Count = 4, 1001
			if reg != 0 {
				want.Cpu.X[reg] = value
			}
			if port == api.PortKey {
				want.Console.Keys = "bc"
			}
			checkStep(t, isa.Format(api.Inst{Op: api.OpIn, A: reg, Imm: int32(port)}), m, clock, want, nil)
		}
	}
}

// TestInOtherStates checks P12.4, EffectIn, for other states of the devices.
func TestInOtherStates(t *testing.T) {
	for i, c := range []struct {
		port int32
		edit func(m *api.Machine)
		want uint32
	}{
		{api.PortKey, func(m *api.Machine) { m.Console.Keys = "" }, math.MaxUint32},
		{api.PortKeys, func(m *api.Machine) { m.Console.Keys = "" }, 0},
		{api.PortKeys, func(m *api.Machine) { m.Console.Keys = "0123456789abcdef" }, 16},
		{api.PortTimer, func(m *api.Machine) { m.Timer = api.Timer{} }, 0},
		{api.PortTimer, func(m *api.Machine) { m.Timer = api.Timer{Armed: true, Deadline: 9} }, 0},
		{api.PortDisk, func(m *api.Machine) { m.Disk = api.Disk{} }, api.DiskIdle},
		{api.PortDisk, func(m *api.Machine) { m.Disk = api.Disk{Blocks: 1, State: api.DiskBusy, Cmd: api.DiskRead} }, api.DiskBusy},
		{api.PortDisk, func(m *api.Machine) { m.Disk.State = api.DiskError }, api.DiskError},
		{api.PortNicLen, func(m *api.Machine) { m.Nic = api.Nic{Len: 5} }, 0},
		{api.PortNic, func(m *api.Machine) { m.Nic = api.Nic{} }, 0},
		{api.PortNic, func(m *api.Machine) { m.Nic = api.Nic{Posted: true, Buffer: 2} }, 1},
		{api.PortBalloon, func(m *api.Machine) { m.Balloon = api.Balloon{} }, 0},
		{api.PortDeflate, func(m *api.Machine) { m.Balloon = api.Balloon{} }, 0},
		{api.PortClock, func(m *api.Machine) {}, 0},
	} {
		m := ported(t)
		c.edit(&m)
		m.Mem[0] = encode(t, api.Inst{Op: api.OpIn, A: 9, Imm: c.port})
		want := duplicate(m)
		want.Cpu.Pc, want.Cpu.X[9], want.Count = 4, c.want, 1001
		checkStep(t, "state "+string(rune('A'+i)), m, 0, want, nil)
	}
}

// outCase is a write of a port by a machine whose pages are filled, and what it causes.
type outCase struct {
	name    string
	port    int32
	value   uint32
	before  func(m *api.Machine)
	after   func(m *api.Machine)
	outputs []api.Output
}

// bytesOf returns n bytes of a memory from an address on.
func bytesOf(words []uint32, addr, n int) string {
	var b strings.Builder
	for i := addr; i < addr+n; i++ {
		b.WriteByte(byte(words[i/4] >> (i % 4 * 8)))
	}
	return b.String()
}

// consoleCases are writes to the console, the clock and the timer.
func consoleCases() []outCase {
	list := []outCase{
		{name: "keys", port: api.PortKeys, value: 65},
		{name: "clock", port: api.PortClock, value: 65},
		{name: "arm", port: api.PortTimer, value: 0x80000001, after: func(m *api.Machine) { m.Timer = api.Timer{Armed: true, Deadline: 0x80000001} }},
		{name: "disarm", port: api.PortTimer, value: 0, after: func(m *api.Machine) { m.Timer = api.Timer{} }},
	}
	for b := range 256 {
		value := 0xABCD0000 | uint32(255-b)<<8 | uint32(b)
		list = append(list, outCase{name: "byte", port: api.PortKey, value: value, outputs: []api.Output{{Kind: api.OutByte, At: 1000, Data: string([]byte{byte(b)})}}})
	}
	return list
}

// diskCases are writes to the disk controller; the filled memory is m.
func diskCases(m []uint32) []outCase {
	idle := func(m *api.Machine) { m.Disk = api.Disk{Blocks: 3, Block: 2, Frame: 3} }
	running := func(m *api.Machine) {
		m.Disk = api.Disk{Blocks: 3, Block: 2, Frame: 3, State: api.DiskBusy, Cmd: api.DiskRead, OpBlock: 2, OpFrame: 3}
	}
	page := bytesOf(m, 3*128, 128)
	return []outCase{
		{name: "block", port: api.PortDiskBlock, value: 99, after: func(m *api.Machine) { m.Disk.Block = 99 }},
		{name: "frame", port: api.PortDiskFrame, value: 98, after: func(m *api.Machine) { m.Disk.Frame = 98 }},
		{name: "acknowledge", port: api.PortDisk, value: 0, after: func(m *api.Machine) { m.Disk.State = api.DiskIdle }},
		{name: "not idle", port: api.PortDisk, value: api.DiskRead},
		{name: "unknown command", port: api.PortDisk, value: 3, before: idle},
		{name: "read", port: api.PortDisk, value: api.DiskRead, before: idle, after: running, outputs: []api.Output{{Kind: api.OutRead, At: 1000, Block: 2}}},
		{name: "write", port: api.PortDisk, value: api.DiskWrite, before: idle, after: func(m *api.Machine) {
			running(m)
			m.Disk.Cmd, m.Disk.OpData = api.DiskWrite, page
		}, outputs: []api.Output{{Kind: api.OutWrite, At: 1000, Block: 2, Data: page}}},
		{name: "no such page", port: api.PortDisk, value: api.DiskWrite, before: func(m *api.Machine) { m.Disk = api.Disk{Blocks: 3, Frame: 4} },
			after: func(m *api.Machine) { m.Disk.State = api.DiskError }},
		{name: "no such block", port: api.PortDisk, value: api.DiskRead, before: func(m *api.Machine) { m.Disk = api.Disk{Blocks: 3, Block: 3} },
			after: func(m *api.Machine) { m.Disk.State = api.DiskError }},
	}
}

// otherCases are writes to the network card and the balloon; the filled memory is m.
func otherCases(m []uint32) []outCase {
	ready := func(m *api.Machine) { m.Nic = api.Nic{Frame: 2, Len: 5} }
	return []outCase{
		{name: "card frame", port: api.PortNicFrame, value: 97, after: func(m *api.Machine) { m.Nic.Frame = 97 }},
		{name: "card length", port: api.PortNicLen, value: 96, after: func(m *api.Machine) { m.Nic.Len = 96 }},
		{name: "send", port: api.PortNic, value: api.NicSend, before: ready, outputs: []api.Output{{Kind: api.OutFrame, At: 1000, Data: bytesOf(m, 2*128, 5)}}},
		{name: "send too much", port: api.PortNic, value: api.NicSend, before: func(m *api.Machine) { m.Nic = api.Nic{Frame: 2, Len: 129} }},
		{name: "post", port: api.PortNic, value: api.NicPost, before: ready, after: func(m *api.Machine) { m.Nic.Posted, m.Nic.Buffer = true, 2 }},
		{name: "post again", port: api.PortNic, value: api.NicPost},
		{name: "acknowledge frame", port: api.PortNic, value: 0, after: func(m *api.Machine) { m.Nic.Received, m.Nic.Got = false, 0 }},
		{name: "give", port: api.PortBalloon, value: 1, before: func(m *api.Machine) { m.Balloon.Given = 4 }, after: func(m *api.Machine) {
			m.Balloon.Given = 6
			clear(m.Mem[32:64])
		}},
		{name: "give again", port: api.PortBalloon, value: 1},
		{name: "give no page", port: api.PortBalloon, value: 4},
		{name: "take back", port: api.PortDeflate, value: 3, after: func(m *api.Machine) { m.Balloon.Given = 7 }},
		{name: "take nothing back", port: api.PortDeflate, value: 35},
	}
}

// TestOut checks P12.4, EffectOut: every port.
func TestOut(t *testing.T) {
	m := ported(t)
	m.Mem = fill(4 * 32)
	for _, c := range slices.Concat(consoleCases(), diskCases(m.Mem), otherCases(m.Mem)) {
		x := duplicate(m)
		// The instruction is on page 0, which no case reads or writes.
		x.Cpu.Pc, x.Cpu.X[7] = 40, c.value
		x.Mem[10] = encode(t, api.Inst{Op: api.OpOut, A: 7, Imm: c.port})
		if c.before != nil {
			c.before(&x)
		}
		want := duplicate(x)
		want.Cpu.Pc, want.Count = 44, 1001
		if c.after != nil {
			c.after(&want)
		}
		checkStep(t, c.name, x, 12, want, c.outputs)
	}
}

// TestOutOfZero checks P12.4, EffectOut, of register 0.
func TestOutOfZero(t *testing.T) {
	m := boot(t, "out r0, 0")
	want := duplicate(m)
	want.Cpu.Pc, want.Count = 4, 1
	checkStep(t, "out r0", m, 0, want, []api.Output{{Kind: api.OutByte, Data: "\x00"}})
}

// TestGivenPageOfInstruction checks P12.4: the balloon clears the page from which the instruction was fetched, after the fetch.
func TestGivenPageOfInstruction(t *testing.T) {
	m := boot(t, "out r0, 10\nnop")
	want := duplicate(m)
	want.Cpu.Pc, want.Count, want.Balloon.Given = 4, 1, 1
	clear(want.Mem)
	checkStep(t, "own page", m, 0, want, nil)
}

// TestOtherEffects checks P12.4: EffectWait, EffectHalt, EffectFlush and instructions without an effect.
func TestOtherEffects(t *testing.T) {
	for _, c := range []struct {
		source string
		after  func(m *api.Machine) // before Pc increases by 4
	}{
		{"wfi", func(m *api.Machine) { m.Waiting = true }},
		{"halt", func(m *api.Machine) { m.Halted = true }},
		{"flush", func(m *api.Machine) {}},
		{"nop", func(m *api.Machine) {}},
		{"addi r1, r0, -1", func(m *api.Machine) { m.Cpu.X[1] = math.MaxUint32 }},
		{"addi r0, r0, -1", func(m *api.Machine) {}},
		{"sw r7, 8(r0)", func(m *api.Machine) { m.Mem[2] = 0xDD000007 }},
		{"sb r7, 0(r0)", func(m *api.Machine) { m.Mem[0] = m.Mem[0]&^0xFF | 7 }},
		{"csrw r7, 7", func(m *api.Machine) { m.Cpu.Csr[api.CsrEnable] = 7 }},
		{"jal r0, 5", func(m *api.Machine) { m.Cpu.Pc = 16 }},
	} {
		image := boot(t, c.source).Mem
		m := ported(t)
		m.Mem = image
		// What does not wait any more executes; what is enabled here does not interrupt.
		for _, waiting := range []bool{false, true} {
			m.Waiting, m.Cpu.Csr[api.CsrEnable] = waiting, 31
			want := duplicate(m)
			want.Waiting, want.Count = false, 1001
			c.after(&want)
			want.Cpu.Pc += 4
			checkStep(t, c.source, m, 3, want, nil)
		}
	}
}

// TestPrivileged checks P12.4: an instruction that traps reaches no device.
func TestPrivileged(t *testing.T) {
	for _, source := range []string{"in r1, 0", "in r1, 2", "out r1, 0", "out r1, 3", "out r0, 6", "out r0, 10", "wfi", "halt", "flush"} {
		image := boot(t, source).Mem
		m := ported(t)
		m.Mem = image
		m.Cpu.Csr[api.CsrStatus] = 0
		want := duplicate(m)
		want.Cpu = cpu.Trap(m.Cpu, api.CausePrivileged, image[0])
		want.Count = 1001
		checkStep(t, source, m, 3, want, nil)
	}
}

// TestInterrupt checks P12.4, steps 1 to 3, for all sets of lines, all values of Enable and Status.
func TestInterrupt(t *testing.T) {
	m := boot(t, "addi r1, r1, 1\n.space 15\naddi r2, r2, 1")
	m.Cpu.Csr[api.CsrVector] = 64
	for lines := range uint32(32) {
		m = raise(m, lines)
		for enable := range uint32(32) {
			m.Cpu.Csr[api.CsrEnable] = enable
			for status := range uint32(32) {
				m.Cpu.Csr[api.CsrStatus] = status &^ api.StatusPaging
				for _, waiting := range []bool{false, true} {
					m.Waiting = waiting
					checkInterrupt(t, m, lines&enable)
				}
			}
		}
	}
}

// checkInterrupt executes a step of a machine with the set of enabled lines.
func checkInterrupt(t *testing.T, m api.Machine, enabled uint32) {
	t.Helper()
	want := m
	switch status := m.Cpu.Csr[api.CsrStatus]; {
	case m.Waiting && enabled == 0:
	case status&2 != 0 && enabled != 0:
		want.Cpu.X[2], want.Cpu.Pc = 1, 68
		want.Cpu.Csr[api.CsrStatus] = 1 | status&1<<3 | 2<<3
		want.Cpu.Csr[api.CsrEpc] = 0
		for line := 4; line >= 0; line-- {
			if enabled>>line&1 != 0 {
				want.Cpu.Csr[api.CsrCause] = 16 + uint32(line)
			}
		}
		want.Waiting, want.Count = false, m.Count+1
	default:
		want.Cpu.X[1], want.Cpu.Pc = 1, 4
		want.Waiting, want.Count = false, m.Count+1
	}
	got, outputs := Step(m, 0)
	if got.Cpu != want.Cpu || got.Waiting != want.Waiting || got.Count != want.Count || !equal(got, want) || len(outputs) != 0 {
		t.Fatalf("Status %d, Enable %d, lines %d, waiting %v:\n got %v\nwant %v", m.Cpu.Csr[0], m.Cpu.Csr[7], Lines(m), m.Waiting, got.Cpu, want.Cpu)
	}
}

// TestInterruptFields checks P12.4, step 2: what the trap replaces, and that its Count and its device stay.
func TestInterruptFields(t *testing.T) {
	m := boot(t, "nop\n.space 15\nin r3, 0\nout r3, 0")
	m.Cpu.Pc = 0x12345678
	m.Cpu.Csr = [api.NumCsr]uint32{api.StatusIrq | api.StatusPaging | api.StatusPrevKernel, 64, 1, 2, 3, 4, 5, 1 << api.LineConsole}
	m.Console.Keys = "yz"
	m.Count = 50
	want := duplicate(m)
	want.Cpu.Pc, want.Cpu.X[3], want.Count, want.Console.Keys = 68, 'y', 51, "z"
	want.Cpu.Csr = [api.NumCsr]uint32{api.StatusKernel | api.StatusPaging | api.StatusPrevIrq, 64, 0x12345678, api.CauseIrq + api.LineConsole, 0, 4, 5, 2}
	checkStep(t, "interrupt from user mode", m, 0, want, nil)
	next := duplicate(want)
	next.Cpu.Pc, next.Count = 72, 52
	checkStep(t, "in the handler", want, 0, next, []api.Output{{Kind: api.OutByte, At: 51, Data: "y"}})
}

// TestInterruptThenTrap checks P12.4: the instruction at the vector may trap, too; then the first trap is lost.
func TestInterruptThenTrap(t *testing.T) {
	m := boot(t, "nop")
	m.Cpu.Pc = 4
	m.Cpu.Csr = [api.NumCsr]uint32{api.StatusIrq, 4096, 1, 2, 3, 4, 5, 31}
	m.Balloon.Target = 9
	want := duplicate(m)
	want.Cpu.Pc, want.Count = 4096, 1
	want.Cpu.Csr = [api.NumCsr]uint32{api.StatusKernel | api.StatusPrevKernel, 4096, 4096, api.CauseFetch, 4096, 4, 5, 31}
	checkStep(t, "vector outside of the memory", m, 0, want, nil)
}

// TestInterruptThenWait checks P12.4: Waiting and Halted can be set by the first instruction of the handler.
func TestInterruptThenWait(t *testing.T) {
	for _, c := range []struct {
		source          string
		waiting, halted bool
	}{{"wfi", true, false}, {"halt", false, true}} {
		m := boot(t, "nop\n.space 15\n"+c.source)
		m.Cpu.Csr = [api.NumCsr]uint32{api.StatusIrq, 64, 0, 0, 0, 0, 0, 1}
		m.Timer, m.Waiting = api.Timer{Fired: true, Deadline: 1}, true
		want := duplicate(m)
		want.Cpu = cpu.Trap(m.Cpu, api.CauseIrq+api.LineTimer, 0)
		want.Cpu.Pc, want.Count, want.Waiting, want.Halted = 68, 1, c.waiting, c.halted
		checkStep(t, c.source, m, 0, want, nil)
	}
}

// TestUserPaging checks P12.4, step 3: the memory is that of cpu.Exec, in which the page table has the accessed and dirty bits.
func TestUserPaging(t *testing.T) {
	m := boot(t, "sw r7, 132(r0)")
	m.Cpu.X[7] = 0xCAFE
	m.Cpu.Csr[api.CsrStatus], m.Cpu.Csr[api.CsrRoot] = api.StatusPaging, 2
	m.Mem[64], m.Mem[65] = api.PteValid|api.PteExec, 3<<8|api.PteValid|api.PteWrite
	want := duplicate(m)
	want.Mem[64] |= api.PteAccessed
	want.Mem[65] |= api.PteAccessed | api.PteDirty
	want.Mem[97] = 0xCAFE
	want.Cpu.Pc, want.Count = 4, 1
	checkStep(t, "store by a page table", m, 0, want, nil)
}

// run executes n steps and returns the outputs.
func run(m api.Machine, n int, clock uint32) (api.Machine, []api.Output) {
	var all []api.Output
	for range n {
		var outputs []api.Output
		m, outputs = Step(m, clock)
		all = append(all, outputs...)
	}
	return m, all
}

// TestEcho checks P12.3 to P12.5 by a program that waits for keys and echoes them from its handler.
func TestEcho(t *testing.T) {
	m := boot(t, "addi r1, r0, 64\ncsrw r1, 1\naddi r1, r0, 2\ncsrw r1, 7\naddi r1, r0, 3\ncsrw r1, 0\nwfi\njal r0, -1\n.space 8\nin r6, 0\nout r6, 0\neret")
	m, outputs := run(m, 20, 0)
	if !Idle(m) || m.Count != 7 || len(outputs) != 0 {
		t.Fatal(m, outputs)
	}
	var echo []api.Output
	for i, key := range []byte("key\xff") {
		next, ok := Apply(m, api.Event{Kind: api.EvKey, N: uint32(key)})
		if !ok || Idle(next) || !Idle(m) {
			t.Fatal("the key does not wake the machine")
		}
		m, outputs = run(next, 20, 0)
		echo = append(echo, api.Output{Kind: api.OutByte, At: uint64(8 + 5*i), Data: string([]byte{key})})
		if !slices.Equal(outputs, echo[i:]) || !Idle(m) || m.Count != uint64(12+5*i) {
			t.Fatal(m.Cpu, m.Count, outputs)
		}
	}
}

// TestTransfers checks P12.4 and P12.5 by a program that reads a block, sends it as a network frame, and receives one.
func TestTransfers(t *testing.T) {
	m := boot(t, "addi r1, r0, 1\nout r1, 4\nout r1, 5\nout r1, 6\naddi r2, r0, 3\nout r1, 7\nout r2, 8\nout r1, 9\naddi r2, r0, 2\nout r2, 9\nin r3, 9\nlw r4, 128(r0)\nout r0, 6\nhalt")
	m, outputs := run(m, 4, 0)
	if !slices.Equal(outputs, []api.Output{{Kind: api.OutRead, At: 3, Block: 1}}) {
		t.Fatal(outputs)
	}
	m, ok := Apply(m, api.Event{Kind: api.EvDisk, N: 1, Data: strings.Repeat("disk", 32)})
	if !ok || Lines(m) != 1<<api.LineDisk {
		t.Fatal(m.Disk)
	}
	m, outputs = run(m, 6, 0)
	if !slices.Equal(outputs, []api.Output{{Kind: api.OutFrame, At: 7, Data: "dis"}}) {
		t.Fatal(outputs)
	}
	m, ok = Apply(m, api.Event{Kind: api.EvNet, Data: "NET"})
	if !ok || Lines(m) != 1<<api.LineNic|1<<api.LineDisk {
		t.Fatal(m.Nic)
	}
	m, outputs = run(m, 20, 0)
	if m.Cpu.X[3] != 2 || m.Cpu.X[4] != 0x6B54454E || !m.Halted || m.Count != 14 || Lines(m) != 1<<api.LineNic || len(outputs) != 0 {
		t.Fatal(m.Cpu, m.Count, outputs)
	}
}

// TestOutputsAreFresh checks R3 for outputs: two calls return lists that share nothing.
func TestOutputsAreFresh(t *testing.T) {
	m := boot(t, "out r0, 0")
	_, first := Step(m, 0)
	want := slices.Clone(first)
	_, second := Step(m, 0)
	second[0].Data = "spoilt"
	if !reflect.DeepEqual(first, want) {
		t.Error("two results share their outputs")
	}
}
