package machine

import (
	"math/rand/v2"
	"slices"
	"strings"
	"testing"

	"vmfleet/api"
	"vmfleet/cpu"
	"vmfleet/isa"
)

// A model is a machine that changes in place. It executes instructions with package cpu, and has its own devices, written after the chapters 7 to 11.
type model struct {
	api.Machine
	outputs []api.Output
}

func (s *model) pages() uint32 { return uint32(len(s.Mem) / 32) }

// set returns whether each line is set.
func (s *model) set() [5]bool {
	given := 0
	for i := range 32 {
		given += int(s.Balloon.Given >> i & 1)
	}
	return [5]bool{s.Timer.Fired, len(s.Console.Keys) > 0, s.Disk.State >= 2, s.Nic.Received, uint32(given) != s.Balloon.Target}
}

// ready tells whether the next step executes an instruction.
func (s *model) ready() bool {
	if s.Halted || s.Count == 1<<60 {
		return false
	}
	return !s.Waiting || s.first() >= 0
}

// first returns the lowest enabled line, or -1.
func (s *model) first() int {
	for line, set := range s.set() {
		if set && s.Cpu.Csr[7]>>line&1 == 1 {
			return line
		}
	}
	return -1
}

// enter takes an interrupt, if there is one.
func (s *model) enter() {
	line := s.first()
	if line < 0 || s.Cpu.Csr[0]&2 == 0 {
		return
	}
	kernel, paging := s.Cpu.Csr[0]&1, s.Cpu.Csr[0]&4
	s.Cpu.Csr = [8]uint32{1 | paging | kernel<<3 | 1<<4, s.Cpu.Csr[1], s.Cpu.Pc, uint32(16 + line), 0, s.Cpu.Csr[5], s.Cpu.Csr[6], s.Cpu.Csr[7]}
	s.Cpu.Pc = s.Cpu.Csr[1]
}

// next returns the effect of the next instruction without executing it.
func (s *model) next() api.Effect {
	peek := *s
	peek.enter()
	_, _, effect := cpu.Exec(peek.Cpu, peek.Mem)
	return effect
}

// step executes an instruction and returns its effect.
func (s *model) step(clock uint32) api.Effect {
	s.Waiting = false
	s.enter()
	var effect api.Effect
	s.Cpu, s.Mem, effect = cpu.Exec(s.Cpu, s.Mem)
	switch effect.Kind {
	case api.EffectIn:
		v := s.in(clock)[effect.Port]
		if effect.Reg > 0 {
			s.Cpu.X[effect.Reg] = v
		}
		if effect.Port == 0 && len(s.Console.Keys) > 0 {
			s.Console.Keys = s.Console.Keys[1:]
		}
	case api.EffectOut:
		s.out(effect.Port, effect.Value)
	case api.EffectWait:
		s.Waiting = true
	case api.EffectHalt:
		s.Halted = true
	}
	s.Count++
	return effect
}

// in returns the values of all ports.
func (s *model) in(clock uint32) [12]uint32 {
	key, fired, status, given := uint32(0xFFFFFFFF), uint32(0), uint32(0), uint32(0)
	if len(s.Console.Keys) > 0 {
		key = uint32(s.Console.Keys[0])
	}
	if s.Timer.Fired {
		fired = 1
	}
	if s.Nic.Posted {
		status = 1
	}
	if s.Nic.Received {
		status += 2
	}
	for i := range 32 {
		given += s.Balloon.Given >> i & 1
	}
	return [12]uint32{key, uint32(len(s.Console.Keys)), clock, fired, s.Disk.Block, s.Disk.Frame, uint32(s.Disk.State),
		s.Nic.Frame, s.Nic.Got, status, s.Balloon.Target, given}
}

func (s *model) emit(kind int, block uint32, data string) {
	s.outputs = append(s.outputs, api.Output{Kind: kind, At: s.Count, Block: block, Data: data})
}

// out writes a port.
func (s *model) out(port int, v uint32) {
	switch {
	case port == 0:
		s.emit(api.OutByte, 0, string([]byte{byte(v)}))
	case port == 3:
		s.Timer = api.Timer{Armed: v > 0, Deadline: v}
	case port == 4:
		s.Disk.Block = v
	case port == 5:
		s.Disk.Frame = v
	case port == 6:
		s.disk(v)
	case port == 7:
		s.Nic.Frame = v
	case port == 8:
		s.Nic.Len = v
	case port == 9:
		s.card(v)
	case port == 10 && v < s.pages() && s.Balloon.Given>>v&1 == 0:
		s.Balloon.Given += 1 << v
		s.Mem = put(s.Mem, int(v)*128, strings.Repeat("\x00", 128))
	case port == 11 && v < 32 && s.Balloon.Given>>v&1 == 1:
		s.Balloon.Given -= 1 << v
	}
}

func (s *model) disk(v uint32) {
	d := &s.Disk
	switch {
	case v == 0 && d.State > 1:
		d.State = 0
	case v > 2 || v == 0 || d.State > 0:
	case d.Block >= d.Blocks || d.Frame >= s.pages():
		d.State = 3
	case v == 1:
		d.State, d.Cmd, d.OpBlock, d.OpFrame = 1, 1, d.Block, d.Frame
		s.emit(api.OutRead, d.Block, "")
	default:
		d.State, d.Cmd, d.OpBlock, d.OpFrame = 1, 2, d.Block, d.Frame
		d.OpData = bytesOf(s.Mem, int(d.Frame)*128, 128)
		s.emit(api.OutWrite, d.Block, d.OpData)
	}
}

func (s *model) card(v uint32) {
	n := &s.Nic
	switch {
	case v == 0:
		n.Received, n.Got = false, 0
	case v == 1 && n.Len > 0 && n.Len <= 128 && n.Frame < s.pages():
		s.emit(api.OutFrame, 0, bytesOf(s.Mem, int(n.Frame)*128, int(n.Len)))
	case v == 2 && n.Frame < s.pages() && !n.Posted && !n.Received:
		n.Posted, n.Buffer = true, n.Frame
	}
}

// apply applies an event and tells whether it applies.
func (s *model) apply(e api.Event) bool {
	fits := map[int]bool{
		api.EvTimer:   s.Timer.Armed && e.N == 0 && e.Data == "",
		api.EvKey:     len(s.Console.Keys) < 16 && e.N < 256 && e.Data == "",
		api.EvDisk:    s.Disk.State == 1 && (e.N == 1 && s.Disk.Cmd == 1 && len(e.Data) == 128 || e.Data == "" && (e.N == 0 || e.N == 1 && s.Disk.Cmd == 2)),
		api.EvNet:     s.Nic.Posted && e.N == 0 && len(e.Data) > 0 && len(e.Data) <= 128,
		api.EvBalloon: e.Data == "",
	}
	if s.Halted || !fits[e.Kind] {
		return false
	}
	switch e.Kind {
	case api.EvTimer:
		s.Timer.Armed, s.Timer.Fired = false, true
	case api.EvKey:
		s.Console.Keys += string([]byte{byte(e.N)})
	case api.EvDisk:
		s.Mem = put(s.Mem, int(s.Disk.OpFrame)*128, e.Data)
		s.Disk = api.Disk{Blocks: s.Disk.Blocks, Block: s.Disk.Block, Frame: s.Disk.Frame, State: 3 - int(e.N)}
	case api.EvNet:
		s.Mem = put(s.Mem, int(s.Nic.Buffer)*128, e.Data)
		s.Nic = api.Nic{Frame: s.Nic.Frame, Len: s.Nic.Len, Received: true, Got: uint32(len(e.Data))}
	case api.EvBalloon:
		s.Balloon.Target = e.N
	}
	return true
}

// A source makes random machines, programs and events.
type source struct{ *rand.Rand }

func newSource(seed uint64) source { return source{rand.New(rand.NewPCG(seed, 12))} }

func pick[T any](s source, list ...T) T { return list[s.IntN(len(list))] }

// word returns a random instruction, mostly one that uses a device; in some cases a word that is none.
func (s source) word(t *testing.T) uint32 {
	t.Helper()
	reg := s.IntN(4)
	i := api.Inst{Op: pick(s, api.OpIn, api.OpOut), A: reg, Imm: int32(s.IntN(api.NumPorts))}
	switch n := s.IntN(100); {
	case n < 30:
		i = api.Inst{Op: api.OpAddi, A: reg, Imm: int32(pick(s, 0, 1, 2, 3, 4, 31, 32, 128, 129, s.IntN(1024)))}
	case n < 34:
		i = api.Inst{Op: api.OpCsrw, A: reg, Imm: int32(s.IntN(api.NumCsr))}
	case n < 38:
		i = api.Inst{Op: pick(s, api.OpSw, api.OpSb, api.OpLw, api.OpLbu), A: reg, B: s.IntN(4), Imm: int32(s.IntN(256) * 4)}
	case n < 42:
		i = api.Inst{Op: pick(s, api.OpWfi, api.OpWfi, api.OpEret, api.OpEret, api.OpEcall, api.OpFlush)}
	case n < 45:
		i = api.Inst{Op: pick(s, api.OpJal, api.OpJal, api.OpCsrr), A: reg, Imm: int32(s.IntN(8))}
	case n == 45 && s.IntN(8) == 0:
		i = api.Inst{Op: api.OpHalt}
	case n == 46:
		return s.Uint32()
	}
	return encode(t, i)
}

// machine returns a random valid machine whose memory is full of instructions.
func (s source) machine(t *testing.T) api.Machine {
	t.Helper()
	image := make([]uint32, 32*(1+s.IntN(8)))
	for i := range image {
		image[i] = s.word(t)
	}
	m, _ := New(len(image)/32, s.IntN(8), image)
	m.Cpu.Csr[api.CsrStatus] = uint32(pick(s, 1, 3, 3, 3, 0, 2, 6))
	m.Cpu.Csr[api.CsrVector] = uint32(s.IntN(len(image))) * 4
	m.Cpu.Csr[api.CsrEnable] = uint32(s.IntN(32))
	return m
}

// restart returns the machine at another instruction and with small numbers in its registers: a random program soon waits, halts or repeats the same trap.
func (s source) restart(m api.Machine) api.Machine {
	for i := range 3 {
		m.Cpu.X[i+1] = uint32(s.IntN(3))
	}
	m.Cpu.Pc = uint32(s.IntN(len(m.Mem))) * 4
	m.Cpu.Csr[api.CsrStatus] = uint32(pick(s, 1, 3, 3, 0, 2))
	m.Cpu.Csr[api.CsrEnable] = uint32(s.IntN(32))
	m.Waiting, m.Halted = false, false
	return m
}

// event returns a random event: most of them can apply.
func (s source) event() api.Event {
	e := api.Event{Kind: 1 + s.IntN(6), N: uint32(pick(s, 0, 0, 0, 1))}
	switch e.Kind {
	case api.EvKey:
		e.N = uint32(s.IntN(258))
	case api.EvDisk:
		e.Data = pick(s, "", strings.Repeat("\x00\x00\x00\x00", 32), strings.Repeat("\x02\x00\x20\x3d", 32))
	case api.EvNet:
		e.Data = strings.Repeat(pick(s, "\x01\x00\x00\x3c", "abc", "x"), s.IntN(33))
	case api.EvBalloon:
		e.N = uint32(s.IntN(4))
	}
	if s.IntN(20) == 0 {
		e.Data += "x"
	}
	return e
}

// seen counts what has happened in all lives, so that the test notices if it tests too little.
type seen struct {
	effects    [6]int
	ins, outs  [api.NumPorts]int
	causes     [32]int
	applied    [8]int
	refused    [8]int
	kinds      [5]int
	idle, woke int
}

// TestLife checks P12.3 to P12.7 by random machines that are compared with the model after every step and event.
func TestLife(t *testing.T) {
	var n seen
	for seed := range uint64(600) {
		s := newSource(seed)
		m := s.machine(t)
		other := &model{Machine: duplicate(m)}
		for range 150 {
			m = liveStep(t, s, m, other, &n)
			for s.IntN(3) == 0 {
				m = liveEvent(t, s.event(), m, other, &n)
			}
			if s.IntN(8) == 0 {
				m = s.restart(m)
				other.Cpu, other.Waiting, other.Halted = m.Cpu, m.Waiting, m.Halted
			}
		}
	}
	checkSeen(t, n)
}

// liveStep executes a step of the machine and of the model.
func liveStep(t *testing.T, s source, m api.Machine, other *model, n *seen) api.Machine {
	t.Helper()
	before, clock := duplicate(m), s.Uint32()
	ready := other.ready()
	reads := ready && other.next() == (api.Effect{Kind: api.EffectIn, Port: 2, Reg: other.next().Reg})
	next, outputs := Step(m, clock)
	if ReadsClock(m) != reads || Idle(m) != (m.Waiting && other.first() < 0) || !equal(m, before) {
		t.Fatalf("%v: ReadsClock %v, Idle %v", m, ReadsClock(m), Idle(m))
	}
	again, _ := Step(m, ^clock)
	if same := Same(next, again); !same && !reads || same != equal(next, again) {
		t.Fatalf("%v: depends on the clock", m)
	}
	other.outputs = nil
	if ready {
		n.note(m, other, other.step(clock))
	} else if m.Waiting {
		n.idle++
	}
	liveCheck(t, next, other)
	if !slices.Equal(outputs, other.outputs) {
		t.Fatalf("%v: outputs %v, want %v", m, outputs, other.outputs)
	}
	if Same(m, next) == ready || ready && next.Count != m.Count+1 {
		t.Fatalf("%v: %v", m, next)
	}
	return next
}

// note counts what a step of m did.
func (n *seen) note(m api.Machine, after *model, effect api.Effect) {
	n.effects[effect.Kind]++
	switch effect.Kind {
	case api.EffectIn:
		n.ins[effect.Port]++
	case api.EffectOut:
		n.outs[effect.Port]++
	}
	if cause := after.Cpu.Csr[api.CsrCause]; cause < 32 && after.Cpu.Csr != m.Cpu.Csr {
		n.causes[cause]++
	}
	for _, o := range after.outputs {
		n.kinds[o.Kind]++
	}
	if m.Waiting {
		n.woke++
	}
}

// liveEvent applies an event to the machine and to the model.
func liveEvent(t *testing.T, e api.Event, m api.Machine, other *model, n *seen) api.Machine {
	t.Helper()
	before := duplicate(m)
	next, ok := Apply(m, e)
	applies := other.apply(e)
	if ok != applies || !equal(m, before) {
		t.Fatalf("%v: event %v: %v", m, e, ok)
	}
	liveCheck(t, next, other)
	if ok {
		n.applied[e.Kind]++
	} else {
		n.refused[e.Kind]++
	}
	return next
}

// liveCheck compares a machine with the model.
func liveCheck(t *testing.T, m api.Machine, other *model) {
	t.Helper()
	if !May(m) || !equal(m, other.Machine) || !Same(m, other.Machine) {
		t.Fatalf("\n got %v\nwant %v", m, other.Machine)
	}
	var lines uint32
	for line, set := range other.set() {
		if set {
			lines |= 1 << line
		}
	}
	if Lines(m) != lines || Encode(m) != encoded(other.Machine) {
		t.Fatalf("%v: Lines %d, want %d; Encode %x", m, Lines(m), lines, Encode(m))
	}
}

// checkSeen checks that everything has happened.
func checkSeen(t *testing.T, n seen) {
	t.Helper()
	for _, list := range [][]int{n.effects[:], n.ins[:], n.outs[:], n.causes[1:8], n.causes[16:21], n.applied[2:7], n.refused[1:6], n.kinds[1:], {n.idle, n.woke}} {
		if slices.Min(list) < 20 {
			t.Errorf("too few: %+v", n)
			return
		}
	}
}

// TestModelKnowsInstructions checks that the random programs consist of instructions.
func TestModelKnowsInstructions(t *testing.T) {
	s, valid := newSource(1), 0
	for range 1000 {
		if _, ok := isa.Decode(s.word(t)); ok {
			valid++
		}
	}
	if valid < 950 {
		t.Error(valid)
	}
}
