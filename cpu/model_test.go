package cpu

import (
	"encoding/binary"
	"maps"
	"math/rand/v2"
	"slices"
	"testing"

	"vmfleet/api"
)

// A model executes instructions as the chapters describe them, on a list of bytes, with wide signed numbers, and with traps that are panics. It calls nothing of the program and writes operations, flags and causes as numbers.
type model struct {
	cpu    api.Cpu
	mem    []byte
	effect api.Effect
}

type trap struct {
	cause int
	bad   uint32
}

// forms has a letter for each operation: r three registers, s A, B and a signed number, u A, B and an unsigned number, h A, B and a distance, l A and an unsigned number, j A and a signed number, c A and a control register, p A and a port, n nothing.
var forms = map[uint32]byte{
	1: 'r', 2: 'r', 3: 'r', 4: 'r', 5: 'r', 6: 'r', 7: 'r', 8: 'r', 9: 'r', 10: 'r', 11: 'r', 12: 'r', 13: 'r',
	16: 's', 17: 'u', 18: 'u', 19: 'u', 20: 'h', 21: 'h', 22: 'h', 23: 's', 24: 'l',
	32: 's', 33: 's', 34: 's', 35: 's', 36: 's',
	40: 's', 41: 's', 42: 's', 43: 's', 44: 's', 45: 's', 48: 'j', 49: 's',
	56: 'n', 57: 'n', 58: 'c', 59: 'c', 60: 'p', 61: 'p', 62: 'n', 63: 'n', 64: 'n',
}

// operations are the numbers of forms in ascending order.
var operations = slices.Sorted(maps.Keys(forms))

func signed(x uint32) int64 { return int64(int32(x)) }

func isTrue(holds bool) int64 {
	if holds {
		return 1
	}
	return 0
}

// arithmetic has the operations with three registers, on signed numbers.
var arithmetic = map[uint32]func(a, b int64) int64{
	1: func(a, b int64) int64 { return a + b },
	2: func(a, b int64) int64 { return a - b },
	3: func(a, b int64) int64 { return a & b },
	4: func(a, b int64) int64 { return a | b },
	5: func(a, b int64) int64 { return a ^ b },
	6: func(a, b int64) int64 { return a * power(b) },
	7: func(a, b int64) int64 { return int64(uint32(a)) / power(b) },
	8: func(a, b int64) int64 { return (a - (a%power(b)+power(b))%power(b)) / power(b) },
	9: func(a, b int64) int64 { return a * b },
	10: func(a, b int64) int64 {
		if b == 0 {
			return -1
		}
		return a / b
	},
	11: func(a, b int64) int64 {
		if b == 0 {
			return a
		}
		return a % b
	},
	12: func(a, b int64) int64 { return isTrue(a < b) },
	13: func(a, b int64) int64 { return isTrue(uint32(a) < uint32(b)) },
}

// withNumber has the operation with three registers for each one with a number.
var withNumber = map[uint32]uint32{16: 1, 17: 3, 18: 4, 19: 5, 20: 6, 21: 7, 22: 8, 23: 12}

// power returns 2 to the number in the low five bits of b.
func power(b int64) int64 { return 1 << (uint32(b) % 32) }

var branching = map[uint32]func(a, b uint32) bool{
	40: func(a, b uint32) bool { return a == b },
	41: func(a, b uint32) bool { return a != b },
	42: func(a, b uint32) bool { return signed(a) < signed(b) },
	43: func(a, b uint32) bool { return signed(a) >= signed(b) },
	44: func(a, b uint32) bool { return a < b },
	45: func(a, b uint32) bool { return a >= b },
}

// exec executes an instruction, or enters the trap handler.
func (s *model) exec() {
	defer func() {
		switch t := recover().(type) {
		case nil:
		case trap:
			s.enter(t)
		default:
			panic(t)
		}
	}()
	s.effect = api.Effect{}
	s.perform(s.read(s.resolve(s.cpu.Pc, 4, 1, s.cpu.Pc), 4))
}

func (s *model) enter(t trap) {
	status := s.cpu.Csr[0]
	s.cpu.Csr[0] = status&^(2|8|16) | 1 | status%2*8 | status/2%2*16
	s.cpu.Csr[2], s.cpu.Csr[3], s.cpu.Csr[4] = s.cpu.Pc, uint32(t.cause), t.bad
	s.cpu.Pc = s.cpu.Csr[1]
}

func (s *model) read(addr uint32, size int) uint32 {
	if size == 1 {
		return uint32(s.mem[addr])
	}
	return binary.LittleEndian.Uint32(s.mem[addr:])
}

func (s *model) write(addr uint32, size int, v uint32) {
	if size == 1 {
		s.mem[addr] = byte(v)
	} else {
		binary.LittleEndian.PutUint32(s.mem[addr:], v)
	}
}

// resolve returns a physical address, or traps with a cause and bad; the access is 1 to fetch, 2 to load, 3 to store.
func (s *model) resolve(va uint32, size int, access int, bad uint32) uint32 {
	if access < 1 || access > 3 || size != 1 && size != 4 {
		panic(trap{5, bad})
	}
	if size == 4 && va%4 > 0 {
		panic(trap{3, bad})
	}
	fault := trap{3 + access, bad}
	pages := uint32(len(s.mem) / 128)
	if len(s.mem)%128 != 0 || pages > 32 {
		panic(fault)
	}
	if s.cpu.Csr[0]%2 == 1 || s.cpu.Csr[0]&4 == 0 {
		if va >= pages*128 {
			panic(fault)
		}
		return va
	}
	root := s.cpu.Csr[6]
	if va >= 4096 || root >= pages {
		panic(fault)
	}
	at := root*128 + va/128*4
	entry := s.read(at, 4)
	frame := entry >> 8 & 255
	switch {
	case entry&1 == 0, access == 1 && entry&4 == 0, access == 3 && entry&2 == 0, frame >= pages:
		panic(fault)
	case access == 3:
		entry |= 16
	}
	s.write(at, 4, entry|8)
	return frame*128 + va%128
}

// perform executes the instruction word w.
func (s *model) perform(w uint32) {
	op, a, b, low := w>>24, w>>20&15, w>>16&15, w&0xFFFF
	form := forms[op]
	if form == 0 || form == 'r' && low > 15 || form == 'h' && low > 31 || form == 'c' && low > 7 || form == 'p' && low > 11 || (form == 'l' || form == 'j' || form == 'c' || form == 'p') && b != 0 || form == 'n' && w<<8 != 0 {
		panic(trap{1, w})
	}
	if op >= 57 && s.cpu.Csr[0]%2 == 0 {
		panic(trap{2, w})
	}
	imm := low
	if form == 's' || form == 'j' {
		imm = uint32(int16(low))
	}
	x, pc := s.cpu.X, s.cpu.Pc
	switch {
	case op < 16:
		s.result(a, uint32(arithmetic[op](signed(x[b]), signed(x[low&15]))))
	case op < 24:
		s.result(a, uint32(arithmetic[withNumber[op]](signed(x[b]), signed(imm))))
	case op == 24:
		s.result(a, low<<16)
	case op < 40:
		s.move(op, a, x[b]+imm)
	case op < 48 && branching[op](x[a], x[b]), op == 48:
		s.jump(op, a, pc+imm*4)
	case op == 49:
		s.jump(op, a, x[b]+imm)
	case op == 56:
		panic(trap{7, 0})
	default:
		s.privileged(op, a, low)
	}
}

// result writes a result, unless to register 0, and goes on to the following instruction.
func (s *model) result(a, v uint32) {
	if a > 0 {
		s.cpu.X[a] = v
	}
	s.cpu.Pc += 4
}

func (s *model) jump(op, a, target uint32) {
	if op >= 48 {
		s.result(a, s.cpu.Pc+4)
	}
	s.cpu.Pc = target
}

// move executes loads and stores.
func (s *model) move(op, a, va uint32) {
	v := s.cpu.X[a]
	switch op {
	case 32:
		s.result(a, s.read(s.resolve(va, 4, 2, va), 4))
	case 33:
		s.result(a, uint32(int8(s.read(s.resolve(va, 1, 2, va), 1))))
	case 34:
		s.result(a, s.read(s.resolve(va, 1, 2, va), 1))
	case 35:
		s.write(s.resolve(va, 4, 3, va), 4, v)
		s.result(0, 0)
	case 36:
		s.write(s.resolve(va, 1, 3, va), 1, v)
		s.result(0, 0)
	}
}

// privileged executes the privileged operations, and the branches that were not taken.
func (s *model) privileged(op, a, low uint32) {
	v := s.cpu.X[a]
	if op == 57 {
		status := s.cpu.Csr[0]
		s.cpu.Csr[0] = status&^3 | status>>3&3
		s.cpu.Pc = s.cpu.Csr[2]
		return
	}
	if op == 58 {
		s.result(a, s.cpu.Csr[low])
		return
	}
	s.result(0, 0)
	switch op {
	case 59:
		s.cpu.Csr[low] = v & [8]uint32{31, 0xFFFFFFFC, 0xFFFFFFFC, 0xFFFFFFFF, 0xFFFFFFFF, 0xFFFFFFFF, 255, 31}[low]
	case 60:
		s.effect = api.Effect{Kind: 1, Port: int(low), Reg: int(a)}
	case 61:
		s.effect = api.Effect{Kind: 2, Port: int(low), Value: v}
	case 62:
		s.effect = api.Effect{Kind: 3}
	case 63:
		s.effect = api.Effect{Kind: 5}
	case 64:
		s.effect = api.Effect{Kind: 4}
	}
}

func bytesOf(words []uint32) []byte {
	b := make([]byte, 0, 4*len(words))
	for _, w := range words {
		b = binary.LittleEndian.AppendUint32(b, w)
	}
	return b
}

// A source draws processors and memories in which most things that can happen do happen.
type source struct{ *rand.Rand }

func newSource(seed uint64) source { return source{rand.New(rand.NewPCG(seed, 6))} }

func pick[T any](s source, list ...T) T { return list[s.IntN(len(list))] }

// number returns a word: an address, a limit of some range, or any number.
func (s source) number() uint32 {
	return pick(s, s.Uint32(), s.Uint32N(4200), s.Uint32N(4200)&^3, s.Uint32N(1100)&^3, s.Uint32N(600)&^3, s.Uint32N(40), pick[uint32](s, 0, 1, 0x7F, 0x80, 0xFF, 0x7FFF, 0x8000, 0xFFFF, 0x7FFFFFFF, 0x80000000, 0x80000001, 0xFFFFFF80, 0xFFFFFFFC, 0xFFFFFFFF))
}

// instruction returns an instruction word that is valid in most cases.
func (s source) instruction() uint32 {
	op := pick(s, operations...)
	w := op<<24 | s.Uint32N(256)<<16 | s.Uint32N(1<<16)
	switch forms[op] {
	case 'r':
		w &= 0xFFFF000F
	case 's':
		if op >= 32 {
			w = w&0xFFFF0000 | (s.Uint32N(64)-32)*pick[uint32](s, 1, 4, 4)&0xFFFF
		}
	case 'h':
		w &= 0xFFFF001F
	case 'l', 'j':
		w &= 0xFFF0FFFF
	case 'c':
		w &= 0xFFF00007
	case 'p':
		w = w&0xFFF00000 | s.Uint32N(12)
	case 'n':
		w &= 0xFF000000
	}
	if s.IntN(8) == 0 {
		w ^= 1 << s.IntN(32)
	}
	return w
}

// entry returns a word of a page table that is an instruction in some cases.
func (s source) entry(pages uint32) uint32 {
	flags := pick(s, s.Uint32N(32), 5, 7, 7, 31)
	frame := pick(s, s.Uint32N(pages), s.Uint32N(pages), s.Uint32N(pages), s.Uint32N(256))
	return s.instruction()&0xFFFF00E0 | frame<<8 | flags
}

// memory returns a memory and the frame of a page table.
func (s source) memory() ([]uint32, uint32) {
	pages := pick[uint32](s, 1, 2, 3, 4, 8, 32)
	root := s.Uint32N(pages)
	m := make([]uint32, pages*32)
	for i := range m {
		m[i] = pick(s, s.instruction, s.instruction, s.instruction, s.number)()
		if uint32(i)/32 == root {
			m[i] = s.entry(pages)
		}
	}
	return m, root
}

// processor returns a processor for a memory of so many words, whose page table is in the frame root.
func (s source) processor(words int, root uint32) api.Cpu {
	var c api.Cpu
	for i := 1; i < 16; i++ {
		c.X[i] = s.number()
	}
	for i := range c.Csr {
		c.Csr[i] = s.number()
	}
	c.Csr[0] = pick(s, s.Uint32N(32), s.Uint32N(32)|1, s.Uint32N(32)&^1|4, s.Uint32())
	c.Csr[6] = pick(s, root, root, root, root, root, s.Uint32N(40), s.Uint32())
	address := s.Uint32N(uint32(words)) * 4
	c.Pc = pick(s, address, address, address, address, s.Uint32N(4096)&^3, s.Uint32N(4096)&^3, s.Uint32N(4200), s.number())
	return c
}

// expectModel executes an instruction and the model's, and returns what the model's led to.
func expectModel(t *testing.T, c api.Cpu, m []uint32) *model {
	t.Helper()
	kept := slices.Clone(m)
	want := &model{cpu: c, mem: bytesOf(m)}
	want.exec()
	got, after, effect := Exec(c, m)
	if got != want.cpu || !slices.Equal(bytesOf(after), want.mem) || effect != want.effect {
		t.Fatalf("%+v with %d words:\n%+v %+v, want\n%+v %+v; memories equal: %v", c, len(m), got, effect, want.cpu, want.effect, slices.Equal(bytesOf(after), want.mem))
	}
	expectKept(t, m, kept, after)
	return want
}

// trials calls try with random processors and memories; some processors share a memory, since it takes longest to draw.
func (s source) trials(memories int, try func(c api.Cpu, m []uint32)) {
	for range memories {
		m, root := s.memory()
		for range 10 {
			try(s.processor(len(m), root), m)
		}
	}
}

// TestModel checks P6.6: single instructions of random processors and memories, each operation and each trap among them many times.
func TestModel(t *testing.T) {
	s := newSource(1)
	done, traps := map[uint32]int{}, map[uint32]int{}
	s.trials(15000, func(c api.Cpu, m []uint32) {
		c.Csr[3] = 99
		word, _, cause := Fetch(c, m)
		got := expectModel(t, c, m)
		if got.cpu.Csr[3] != 99 {
			traps[got.cpu.Csr[3]]++
		} else if cause == 0 {
			done[word>>24]++
		}
	})
	for _, op := range operations {
		if done[op] < 150 && op != 56 {
			t.Errorf("operation %d was executed %d times: the test compares too little", op, done[op])
		}
	}
	for cause := uint32(1); cause <= 7; cause++ {
		if traps[cause] < 300 {
			t.Errorf("cause %d occurred %d times: the test compares too little", cause, traps[cause])
		}
	}
}

// TestModelNoMemory checks P6.6 for lists of words that are not memories: every fetch traps.
func TestModelNoMemory(t *testing.T) {
	s := newSource(2)
	for _, n := range noMemories {
		m := make([]uint32, n)
		for i := range m {
			m[i] = s.entry(1)
		}
		for range 200 {
			if got := expectModel(t, s.processor(32, 0), m); got.cpu.Csr[3] != 3 && got.cpu.Csr[3] != 4 {
				t.Fatalf("%d words: cause %d", n, got.cpu.Csr[3])
			}
		}
	}
}

// TestModelRuns checks P6.6 and P6.7: programs of random instructions that go on after their traps, in which register 0 stays 0.
func TestModelRuns(t *testing.T) {
	s := newSource(3)
	for range 800 {
		m, root := s.memory()
		c := s.processor(len(m), root)
		c.Csr[1] = s.Uint32N(uint32(len(m)) * 4)
		for range 60 {
			want := expectModel(t, c, m)
			var e api.Effect
			if c, m, e = Exec(c, m); e != want.effect || c.X[0] != 0 {
				t.Fatalf("%+v, %+v", c, e)
			}
		}
	}
}

// TestModelEveryWord checks P6.6, steps 2 and 3: one word of each operation and each number that is none, with each bit changed, in both modes.
func TestModelEveryWord(t *testing.T) {
	s := newSource(4)
	for op := range uint32(256) {
		for _, rest := range []uint32{0, 0x123, 0x120000, 0x340005, 0x56FFF8, 0xF0000B, 0xFFFFFF} {
			for bit := range 33 {
				w := (op<<24 | rest) ^ uint32(1<<bit)
				c := s.processor(64, 0)
				c.Pc, c.Csr[0] = 64, w%2|s.Uint32N(16)*2&^4
				m := make([]uint32, 64)
				m[16] = w
				expectModel(t, c, m)
				c.Csr[0] ^= 1
				expectModel(t, c, m)
			}
		}
	}
}
