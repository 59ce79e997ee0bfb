package cpu

import (
	"vmfleet/api"
	"vmfleet/bits"
	"vmfleet/isa"
	"vmfleet/memory"
)

// Exec executes the instruction at Pc.
func Exec(c api.Cpu, m []uint32) (api.Cpu, []uint32, api.Effect) {
	word, after, cause := Fetch(c, m)
	if cause != api.CauseNone {
		return Trap(c, cause, c.Pc), after, api.Effect{}
	}
	i, ok := isa.Decode(word)
	if !ok {
		return Trap(c, api.CauseIllegal, word), after, api.Effect{}
	}
	if isa.Privileged(i.Op) && !inKernel(c) {
		return Trap(c, api.CausePrivileged, word), after, api.Effect{}
	}
	next := c
	switch i.Op {
	case api.OpLw, api.OpLb, api.OpLbu:
		next, after = load(c, after, i)
	case api.OpSw, api.OpSb:
		next, after = store(c, after, i)
	default:
		next = step(c, i)
	}
	return next, after, effectOf(c, i)
}

// load executes a load; the memory changes only by what the walker notes in the page table.
func load(c api.Cpu, m []uint32, i api.Inst) (api.Cpu, []uint32) {
	va, size := operandOf(c, i)
	addr, after, cause := Resolve(c, m, va, size, api.AccessLoad)
	if cause != api.CauseNone {
		return Trap(c, cause, va), after
	}
	v, _ := memory.Load(after, addr, size)
	if i.Op == api.OpLb {
		v = bits.SignExtend(v, byteBits)
	}
	return setReg(advance(c), i.A, v), after
}

// store executes a store. It writes to the memory that the walker leaves, since it may replace the page-table entry that led to it.
func store(c api.Cpu, m []uint32, i api.Inst) (api.Cpu, []uint32) {
	va, size := operandOf(c, i)
	addr, after, cause := Resolve(c, m, va, size, api.AccessStore)
	if cause != api.CauseNone {
		return Trap(c, cause, va), after
	}
	after, _ = memory.Store(after, addr, size, c.X[i.A])
	return advance(c), after
}

// operandOf returns the virtual address and the size of a load or store.
func operandOf(c api.Cpu, i api.Inst) (uint32, int) {
	va := c.X[i.B] + uint32(i.Imm)
	if i.Op == api.OpLw || i.Op == api.OpSw {
		return va, wordBytes
	}
	return va, 1
}

// step executes an instruction that does not access the memory. Its operands are those of c, and next has a copy of the registers: operands are read before results are written.
func step(c api.Cpu, i api.Inst) api.Cpu {
	next, imm := advance(c), uint32(i.Imm)
	target := c.Pc + wordBytes*imm
	switch i.Op {
	case api.OpLui:
		return setReg(next, i.A, imm<<upperHalf)
	case api.OpBeq, api.OpBne, api.OpBlt, api.OpBge, api.OpBltu, api.OpBgeu:
		if branches(i.Op, c.X[i.A], c.X[i.B]) {
			next.Pc = target
		}
		return next
	case api.OpJalr:
		target = c.X[i.B] + imm
		fallthrough
	case api.OpJal:
		next = setReg(next, i.A, next.Pc)
		next.Pc = target
		return next
	case api.OpEcall:
		return Trap(c, api.CauseEcall, 0)
	case api.OpEret:
		return Return(c)
	case api.OpCsrr:
		return setReg(next, i.A, c.Csr[i.Imm])
	case api.OpCsrw:
		return Write(next, int(i.Imm), c.X[i.A])
	}
	if v, ok := Alu(i.Op, c.X[i.B], lastOperand(c, i)); ok {
		return setReg(next, i.A, v)
	}
	return next
}

// advance returns the processor at the following instruction.
func advance(c api.Cpu) api.Cpu {
	c.Pc += wordBytes
	return c
}

// setReg returns the processor in which the register has the value v; register 0 keeps its own.
func setReg(c api.Cpu, reg int, v uint32) api.Cpu {
	if reg != 0 {
		c.X[reg] = v
	}
	return c
}

// lastOperand returns the second operand of an arithmetic instruction; those with three registers have the least numbers of all.
func lastOperand(c api.Cpu, i api.Inst) uint32 {
	if i.Op <= api.OpSltu {
		return c.X[i.C]
	}
	return uint32(i.Imm)
}

// branches tells whether a branch that compares a and b leaves the sequence.
func branches(op int, a, b uint32) bool {
	switch op {
	case api.OpBeq:
		return a == b
	case api.OpBne:
		return a != b
	case api.OpBlt:
		return int32(a) < int32(b)
	case api.OpBge:
		return int32(a) >= int32(b)
	case api.OpBltu:
		return a < b
	}
	return a >= b
}

// effectOf returns what an instruction leaves to be done to the devices and the machine.
func effectOf(c api.Cpu, i api.Inst) api.Effect {
	switch i.Op {
	case api.OpIn:
		return api.Effect{Kind: api.EffectIn, Port: int(i.Imm), Reg: i.A}
	case api.OpOut:
		return api.Effect{Kind: api.EffectOut, Port: int(i.Imm), Value: c.X[i.A]}
	case api.OpWfi:
		return api.Effect{Kind: api.EffectWait}
	case api.OpFlush:
		return api.Effect{Kind: api.EffectFlush}
	case api.OpHalt:
		return api.Effect{Kind: api.EffectHalt}
	}
	return api.Effect{}
}
