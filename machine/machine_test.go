package machine

import (
	"math"
	"reflect"
	"slices"
	"strings"
	"testing"

	"vmfleet/api"
	"vmfleet/asm"
)

// fill returns n words, none of which is 0.
func fill(n int) []uint32 {
	words := make([]uint32, n)
	for i := range words {
		words[i] = uint32(i+1) * 0x9E3779B9
	}
	return words
}

// spoil overwrites words, so that whoever shares them notices.
func spoil(words []uint32) {
	for i := range words {
		words[i] = ^words[i]
	}
}

// duplicate returns the machine with a memory of its own.
func duplicate(m api.Machine) api.Machine {
	m.Mem = append([]uint32{}, m.Mem...)
	return m
}

// equal compares two machines without the help of Same; a nil memory and an empty one are equal.
func equal(a, b api.Machine) bool {
	return reflect.DeepEqual(duplicate(a), duplicate(b))
}

// boot returns a machine with four pages and three blocks that executes a source.
func boot(t *testing.T, source string) api.Machine {
	t.Helper()
	image, fault := asm.Assemble(source)
	if fault != (api.SourceError{}) {
		t.Fatal(source, fault)
	}
	m, err := New(4, 3, image)
	if err != api.OK {
		t.Fatal(err)
	}
	return m
}

// busy returns a valid machine of four pages that has something in every field that it may have at the same time.
func busy() api.Machine {
	m := api.Machine{
		Cpu:     api.Cpu{Pc: 8, Csr: [api.NumCsr]uint32{31, 64, 7, 9, 11, 13, 255, 31}},
		Mem:     fill(4 * 32),
		Console: api.Console{Keys: "keys\x00\xff"},
		Timer:   api.Timer{Armed: true, Deadline: 17},
		Disk: api.Disk{Blocks: 3, Block: 70, Frame: 80, State: api.DiskBusy, Cmd: api.DiskWrite,
			OpBlock: 2, OpFrame: 3, OpData: strings.Repeat("w", 128)},
		Nic:     api.Nic{Frame: 90, Len: 100, Received: true, Got: 128},
		Balloon: api.Balloon{Target: 3, Given: 9},
		Count:   12345,
		Waiting: true,
	}
	for i := range m.Cpu.X {
		m.Cpu.X[i] = uint32(i) * 0x11111111
	}
	return m
}

// unchanged checks that no function of execution changes or shares a machine that it refuses.
func unchanged(t *testing.T, name string, m api.Machine) {
	t.Helper()
	before := duplicate(m)
	next, outputs := Step(m, 5)
	if len(outputs) != 0 || !equal(next, before) || ReadsClock(m) {
		t.Errorf("%s: the machine executes", name)
	}
	spoil(next.Mem)
	if !equal(m, before) {
		t.Errorf("%s: Step changes or shares its argument", name)
	}
}

// noEvent checks that an event does not apply.
func noEvent(t *testing.T, name string, m api.Machine, e api.Event) {
	t.Helper()
	before := duplicate(m)
	next, ok := Apply(m, e)
	if ok || !equal(next, before) {
		t.Errorf("%s: event %d, N %d, %d bytes of Data: applied", name, e.Kind, e.N, len(e.Data))
	}
	spoil(next.Mem)
	if !equal(m, before) {
		t.Errorf("%s: event %d: Apply changes or shares its argument", name, e.Kind)
	}
}

// TestNew checks P12.1, machines that can be made.
func TestNew(t *testing.T) {
	for pages := 1; pages <= 32; pages++ {
		for _, blocks := range []int{0, 1, 2, 63, 64} {
			for _, words := range []int{0, 1, 31, pages * 32} {
				checkNew(t, pages, blocks, fill(min(words, pages*32)))
			}
		}
	}
}

func checkNew(t *testing.T, pages, blocks int, image []uint32) {
	t.Helper()
	given := slices.Clone(image)
	m, err := New(pages, blocks, image)
	want := api.Machine{Mem: make([]uint32, pages*32)}
	copy(want.Mem, given)
	want.Cpu.Csr[0] = 1
	want.Disk.Blocks = uint32(blocks)
	if err != api.OK || !equal(m, want) || !May(m) {
		t.Fatalf("New(%d, %d, %d words) = %v, %v", pages, blocks, len(image), m, err)
	}
	spoil(m.Mem)
	if !slices.Equal(image, given) {
		t.Fatalf("New(%d, %d, %d words) changes or shares the image", pages, blocks, len(image))
	}
}

// TestNewRefuses checks P12.1, ErrMachineForm.
func TestNewRefuses(t *testing.T) {
	for _, c := range []struct{ pages, blocks, words int }{
		{0, 0, 0}, {-1, 0, 0}, {33, 0, 0}, {64, 3, 3}, {math.MinInt, 0, 0}, {math.MaxInt, 0, 0}, {1 << 32, 0, 0}, {1<<32 + 1, 0, 0}, {1 << 59, 0, 0}, {1<<59 + 1, 0, 0},
		{1, -1, 0}, {1, 65, 0}, {32, 128, 9}, {1, math.MinInt, 0}, {1, math.MaxInt, 0}, {1, 1 << 32, 0}, {1, 1<<32 + 1, 0},
		{1, 0, 33}, {1, 64, 64}, {2, 1, 65}, {31, 1, 1024}, {32, 1, 1025}, {32, 1, 2048},
		{0, 65, 1}, {33, -1, 2000},
	} {
		m, err := New(c.pages, c.blocks, fill(c.words))
		if err != api.ErrMachineForm || !reflect.DeepEqual(m, api.Machine{}) {
			t.Errorf("New(%d, %d, %d words) = %v, %v", c.pages, c.blocks, c.words, m, err)
		}
	}
}

// change is a change of a machine, and whether it leaves a valid one.
type change struct {
	name  string
	valid bool
	edit  func(m *api.Machine)
}

// cpuChanges are changes of the processor.
func cpuChanges() []change {
	list := []change{
		{"nothing", true, func(m *api.Machine) {}},
		{"X[0] 1", false, func(m *api.Machine) { m.Cpu.X[0] = 1 }},
		{"X[0] with bit 31", false, func(m *api.Machine) { m.Cpu.X[0] = 1 << 31 }},
		{"X[0] and X[1] 1", false, func(m *api.Machine) { m.Cpu.X[0], m.Cpu.X[1] = 1, 1 }},
	}
	for i := 1; i < 16; i++ {
		list = append(list, change{"X", true, func(m *api.Machine) { m.Cpu.X[i] = math.MaxUint32 }})
	}
	for _, v := range []uint32{0, 1, 2, 3, 4, 5, 1 << 31, math.MaxUint32} {
		list = append(list, change{"Pc", true, func(m *api.Machine) { m.Cpu.Pc = v }})
		for _, csr := range []int{api.CsrEpc, api.CsrCause, api.CsrBad, api.CsrScratch} {
			list = append(list, change{"Epc, Cause, Bad or Scratch", true, func(m *api.Machine) { m.Cpu.Csr[csr] = v }})
		}
	}
	for v := range uint32(70) {
		list = append(list,
			change{"Status", v <= 31, func(m *api.Machine) { m.Cpu.Csr[api.CsrStatus] = v }},
			change{"Enable", v <= 31, func(m *api.Machine) { m.Cpu.Csr[api.CsrEnable] = v }},
			change{"Vector", v%4 == 0, func(m *api.Machine) { m.Cpu.Csr[api.CsrVector] = v }})
	}
	for n := 5; n < 32; n++ {
		list = append(list,
			change{"Status", false, func(m *api.Machine) { m.Cpu.Csr[api.CsrStatus] = 1 << n }},
			change{"Enable", false, func(m *api.Machine) { m.Cpu.Csr[api.CsrEnable] = 1 << n }},
			change{"Root", n <= 7, func(m *api.Machine) { m.Cpu.Csr[api.CsrRoot] = 1 << n }},
			change{"Root", n <= 8, func(m *api.Machine) { m.Cpu.Csr[api.CsrRoot] = 1<<n - 1 }},
			change{"Vector", true, func(m *api.Machine) { m.Cpu.Csr[api.CsrVector] = 1 << n }},
			change{"Vector", false, func(m *api.Machine) { m.Cpu.Csr[api.CsrVector] = 1<<n + 2 }})
	}
	return append(list, change{"Vector", true, func(m *api.Machine) { m.Cpu.Csr[api.CsrVector] = math.MaxUint32 - 3 }},
		change{"Vector", false, func(m *api.Machine) { m.Cpu.Csr[api.CsrVector] = math.MaxUint32 }})
}

// deviceChanges are changes of the devices: at least one for each sentence of their chapters, and the limits that depend on the number of pages, which is 4.
var deviceChanges = []change{
	{"no keys", true, func(m *api.Machine) { m.Console.Keys = "" }},
	{"16 keys", true, func(m *api.Machine) { m.Console.Keys = strings.Repeat("k", 16) }},
	{"17 keys", false, func(m *api.Machine) { m.Console.Keys = strings.Repeat("k", 17) }},
	{"fired", true, func(m *api.Machine) { m.Timer = api.Timer{Fired: true, Deadline: 17} }},
	{"armed and fired", false, func(m *api.Machine) { m.Timer.Fired = true }},
	{"armed for 0", false, func(m *api.Machine) { m.Timer.Deadline = 0 }},
	{"deadline alone", false, func(m *api.Machine) { m.Timer.Armed = false }},
	{"64 blocks", true, func(m *api.Machine) { m.Disk.Blocks = 64 }},
	{"65 blocks", false, func(m *api.Machine) { m.Disk.Blocks = 65 }},
	{"2 blocks", false, func(m *api.Machine) { m.Disk.Blocks = 2 }},
	{"disk frame 4", false, func(m *api.Machine) { m.Disk.OpFrame = 4 }},
	{"data of a read", false, func(m *api.Machine) { m.Disk.Cmd = api.DiskRead }},
	{"read", true, func(m *api.Machine) { m.Disk.Cmd, m.Disk.OpData = api.DiskRead, "" }},
	{"idle with a command", false, func(m *api.Machine) { m.Disk.State = api.DiskIdle }},
	{"disk done", true, func(m *api.Machine) { m.Disk = api.Disk{Blocks: 3, State: api.DiskDone} }},
	{"disk state 4", false, func(m *api.Machine) { m.Disk = api.Disk{Blocks: 3, State: 4} }},
	{"disk state -1", false, func(m *api.Machine) { m.Disk = api.Disk{Blocks: 3, State: -1} }},
	{"card frame 3", true, func(m *api.Machine) { m.Nic = api.Nic{Posted: true, Buffer: 3} }},
	{"card frame 4", false, func(m *api.Machine) { m.Nic = api.Nic{Posted: true, Buffer: 4} }},
	{"posted and received", false, func(m *api.Machine) { m.Nic.Posted = true }},
	{"129 bytes received", false, func(m *api.Machine) { m.Nic.Got = 129 }},
	{"nothing received", false, func(m *api.Machine) { m.Nic.Got = 0 }},
	{"all frames given", true, func(m *api.Machine) { m.Balloon.Given = 15 }},
	{"frame 4 given", false, func(m *api.Machine) { m.Balloon.Given = 16 }},
	{"great target", true, func(m *api.Machine) { m.Balloon.Target = math.MaxUint32 }},
	{"great registers", true, func(m *api.Machine) {
		m.Disk.Block, m.Disk.Frame, m.Nic.Frame, m.Nic.Len = math.MaxUint32, math.MaxUint32, math.MaxUint32, math.MaxUint32
	}},
	{"2 pages", false, func(m *api.Machine) { m.Mem = m.Mem[:2*32] }},
	{"2 pages for the disk and the balloon", false, func(m *api.Machine) { m.Mem, m.Balloon.Given, m.Disk.OpFrame = m.Mem[:2*32], 1, 3 }},
	{"2 pages for all", true, func(m *api.Machine) { m.Mem, m.Balloon.Given, m.Disk.OpFrame = m.Mem[:2*32], 2, 1 }},
}

// machineChanges are changes of the memory and of the fields beside the devices.
func machineChanges() []change {
	list := []change{
		{"Count 0", true, func(m *api.Machine) { m.Count = 0 }},
		{"Count MaxCount", true, func(m *api.Machine) { m.Count = 1 << 60 }},
		{"Count above MaxCount", false, func(m *api.Machine) { m.Count = 1<<60 + 1 }},
		{"Count above MaxCount", false, func(m *api.Machine) { m.Count = 1 << 61 }},
		{"Count above MaxCount", false, func(m *api.Machine) { m.Count = math.MaxUint64 }},
		{"neither waiting nor halted", true, func(m *api.Machine) { m.Waiting = false }},
		{"halted", true, func(m *api.Machine) { m.Waiting, m.Halted = false, true }},
		{"waiting and halted", false, func(m *api.Machine) { m.Halted = true }},
	}
	for pages := 4; pages <= 32; pages++ {
		list = append(list, change{"more pages", true, func(m *api.Machine) { m.Mem = fill(pages * 32) }})
	}
	for _, words := range []int{0, 1, 4, 31, 33, 96, 127, 129, 1023, 1025, 33 * 32, 34 * 32, 64 * 32, 4 * 1024} {
		list = append(list, change{"no memory", false, func(m *api.Machine) { m.Mem = fill(words) }})
	}
	return append(list, change{"nil memory", false, func(m *api.Machine) { m.Mem = nil }})
}

// TestMay checks P12.2, and that a machine which does not satisfy May neither executes (P12.3, P12.4) nor takes an event (P12.5).
func TestMay(t *testing.T) {
	for _, c := range slices.Concat(cpuChanges(), deviceChanges, machineChanges()) {
		m := busy()
		c.edit(&m)
		if May(m) != c.valid {
			t.Errorf("%s: May is %v", c.name, !c.valid)
		}
		if c.valid {
			continue
		}
		unchanged(t, c.name, m)
		noEvent(t, c.name, m, api.Event{Kind: api.EvTimer})
		noEvent(t, c.name, m, api.Event{Kind: api.EvKey, N: 'x'})
		noEvent(t, c.name, m, api.Event{Kind: api.EvDisk, N: 1})
		noEvent(t, c.name, m, api.Event{Kind: api.EvDisk, N: 0})
		noEvent(t, c.name, m, api.Event{Kind: api.EvNet, Data: "frame"})
		noEvent(t, c.name, m, api.Event{Kind: api.EvBalloon, N: 1})
	}
}

// TestMayBare checks P12.2 for the zero machine, which has no memory.
func TestMayBare(t *testing.T) {
	if May(api.Machine{}) || Lines(api.Machine{}) != 0 || Idle(api.Machine{}) || ReadsClock(api.Machine{}) {
		t.Error("the zero machine is one")
	}
	unchanged(t, "zero machine", api.Machine{})
	noEvent(t, "zero machine", api.Machine{}, api.Event{Kind: api.EvBalloon, N: 1})
}

// raise sets the devices so that exactly the lines of the set are set.
func raise(m api.Machine, lines uint32) api.Machine {
	m.Console, m.Timer, m.Nic, m.Balloon = api.Console{}, api.Timer{Armed: true, Deadline: 1}, api.Nic{Posted: true}, api.Balloon{Target: 1, Given: 2}
	m.Disk = api.Disk{Blocks: 3, State: api.DiskBusy, Cmd: api.DiskRead}
	if lines&1 != 0 {
		m.Timer = api.Timer{Fired: true, Deadline: 1}
	}
	if lines&2 != 0 {
		m.Console.Keys = "\x00"
	}
	if lines&4 != 0 {
		m.Disk = api.Disk{Blocks: 3, State: api.DiskDone}
	}
	if lines&8 != 0 {
		m.Nic = api.Nic{Received: true, Got: 1}
	}
	if lines&16 != 0 {
		m.Balloon.Target = 2
	}
	return m
}

// TestLines checks P12.3: Lines and Idle for all sets of lines and all values of Enable.
func TestLines(t *testing.T) {
	m := boot(t, "nop")
	for lines := range uint32(32) {
		m = raise(m, lines)
		for enable := range uint32(32) {
			m.Cpu.Csr[api.CsrEnable] = enable
			for _, waiting := range []bool{false, true} {
				m.Waiting = waiting
				want := waiting && lines&enable == 0
				if !May(m) || Lines(m) != lines || Idle(m) != want {
					t.Fatalf("lines %d, enable %d, waiting %v: Lines %d, Idle %v", lines, enable, waiting, Lines(m), Idle(m))
				}
			}
		}
	}
}

// TestLinesOfDevices checks P12.3 for single states of devices.
func TestLinesOfDevices(t *testing.T) {
	for i, c := range []struct {
		m    api.Machine
		want uint32
	}{
		{api.Machine{}, 0},
		{api.Machine{Timer: api.Timer{Fired: true}}, 1},
		{api.Machine{Timer: api.Timer{Armed: true, Deadline: 1}}, 0},
		{api.Machine{Console: api.Console{Keys: "a"}}, 2},
		{api.Machine{Disk: api.Disk{State: api.DiskBusy}}, 0},
		{api.Machine{Disk: api.Disk{State: api.DiskDone}}, 4},
		{api.Machine{Disk: api.Disk{State: api.DiskError}}, 4},
		{api.Machine{Disk: api.Disk{State: 4}}, 0},
		{api.Machine{Nic: api.Nic{Posted: true}}, 0},
		{api.Machine{Nic: api.Nic{Received: true}}, 8},
		{api.Machine{Balloon: api.Balloon{Target: 1}}, 16},
		{api.Machine{Balloon: api.Balloon{Given: 1 << 31}}, 16},
		{api.Machine{Balloon: api.Balloon{Target: 32, Given: math.MaxUint32}}, 0},
		{api.Machine{Halted: true, Waiting: true, Count: math.MaxUint64}, 0},
	} {
		if got := Lines(c.m); got != c.want {
			t.Errorf("machine %d: Lines is %d, want %d", i, got, c.want)
		}
		c.m.Waiting = true
		c.m.Cpu.Csr[api.CsrEnable] = math.MaxUint32
		if got := Idle(c.m); got != (c.want == 0) {
			t.Errorf("machine %d: Idle is %v", i, got)
		}
	}
}

// TestReadsClock checks P12.3, ReadsClock.
func TestReadsClock(t *testing.T) {
	m := boot(t, "in r1, 2\n.space 15\nnop\nin r2, 2")
	m.Cpu.Csr = [api.NumCsr]uint32{api.StatusKernel, 64, 0, 0, 0, 0, 0, 2}
	for i, c := range []struct {
		want bool
		edit func(m *api.Machine)
	}{
		{true, func(m *api.Machine) {}},
		{true, func(m *api.Machine) { m.Console.Keys = "a" }}, // interrupts are disabled
		{true, func(m *api.Machine) { m.Cpu.Csr[0] |= api.StatusIrq }},
		{false, func(m *api.Machine) { m.Cpu.Csr[0] |= api.StatusIrq; m.Console.Keys = "a" }}, // the handler begins with a nop
		{true, func(m *api.Machine) { m.Cpu.Csr[0] |= api.StatusIrq; m.Balloon.Target = 1 }},  // the line is not enabled
		{true, func(m *api.Machine) { m.Cpu.Csr[0] |= api.StatusIrq; m.Console.Keys = "a"; m.Cpu.Csr[1] = 68 }},
		{true, func(m *api.Machine) { m.Cpu.Csr[0] = api.StatusIrq; m.Console.Keys = "a"; m.Cpu.Csr[1] = 68 }}, // the trap enters kernel mode
		{false, func(m *api.Machine) { m.Cpu.Csr[0] |= api.StatusIrq; m.Console.Keys = "a"; m.Cpu.Csr[1] = 4096 }},
		{false, func(m *api.Machine) { m.Cpu.Csr[0] = 0 }},                     // privileged
		{false, func(m *api.Machine) { m.Cpu.Pc = 64 }},                        // another instruction
		{false, func(m *api.Machine) { m.Cpu.Pc = 1 }},                         // misaligned
		{false, func(m *api.Machine) { m.Cpu.Pc = 512 }},                       // outside of the memory
		{false, func(m *api.Machine) { m.Cpu.Pc = 4 }},                         // no instruction
		{true, func(m *api.Machine) { m.Cpu.Pc = 68 }},                         //
		{true, func(m *api.Machine) { m.Mem[0] &^= 0xF << 20 }},                // into register 0
		{false, func(m *api.Machine) { m.Mem[0] ^= 1 }},                        // port 3
		{false, func(m *api.Machine) { m.Mem[0] ^= 3 }},                        // port 1
		{false, func(m *api.Machine) { m.Mem[0] ^= 2 }},                        // port 0
		{false, func(m *api.Machine) { m.Mem[0] ^= 8 }},                        // port 10
		{false, func(m *api.Machine) { m.Mem[0] += 1 << 24 }},                  // Out
		{false, func(m *api.Machine) { m.Halted = true }},                      //
		{false, func(m *api.Machine) { m.Waiting = true }},                     // idle
		{true, func(m *api.Machine) { m.Waiting, m.Console.Keys = true, "a" }}, // not idle any more
		{true, func(m *api.Machine) { m.Count = api.MaxCount - 1 }},
		{false, func(m *api.Machine) { m.Count = api.MaxCount }},
		{false, func(m *api.Machine) { m.Count = api.MaxCount + 1 }},
		{false, func(m *api.Machine) { m.Timer.Deadline = 1 }}, // not valid
	} {
		x := duplicate(m)
		c.edit(&x)
		before := duplicate(x)
		if ReadsClock(x) != c.want {
			t.Errorf("machine %d: ReadsClock is %v", i, !c.want)
		}
		if !equal(x, before) {
			t.Errorf("machine %d: ReadsClock changes its argument", i)
		}
	}
}
