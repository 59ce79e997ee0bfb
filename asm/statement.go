package asm

import "vmfleet/api"

// maxSpace is the greatest operand of .space.
const maxSpace = 1024

// A role tells what a word does with its value X.
type role int

const (
	roleImm   role = iota // X is Imm; a label stands for the distance to it
	roleData              // X is the word
	roleUpper             // the upper half of X is Imm
	roleLower             // the lower half of X is Imm
)

// A value is a number, or the name of a label.
type value struct {
	number int64
	label  string // empty if the value is a number
}

// A draft is a word as it is before the addresses of all labels are known.
type draft struct {
	line int
	role role
	inst api.Inst // without Imm; empty if the word is data
	x    value
}

// Operands are what a statement's pattern has read; those that the pattern lacks are 0.
type operands struct {
	a, b, c int
	x       value
}

// A statement tells how the operands of a mnemonic are written, and which words they stand for. In the pattern, A, B and C are registers, N is a number, X a number or the name of a label, and every other byte is itself.
type statement struct {
	op      int
	pattern string
	words   func(op int, o operands) ([]draft, bool)
}

// statements is a function since the language has no constant maps.
func statements() map[string]statement {
	return map[string]statement{
		"add":    {api.OpAdd, "A,B,C", instruction},
		"sub":    {api.OpSub, "A,B,C", instruction},
		"and":    {api.OpAnd, "A,B,C", instruction},
		"or":     {api.OpOr, "A,B,C", instruction},
		"xor":    {api.OpXor, "A,B,C", instruction},
		"shl":    {api.OpShl, "A,B,C", instruction},
		"shr":    {api.OpShr, "A,B,C", instruction},
		"sar":    {api.OpSar, "A,B,C", instruction},
		"mul":    {api.OpMul, "A,B,C", instruction},
		"div":    {api.OpDiv, "A,B,C", instruction},
		"rem":    {api.OpRem, "A,B,C", instruction},
		"slt":    {api.OpSlt, "A,B,C", instruction},
		"sltu":   {api.OpSltu, "A,B,C", instruction},
		"addi":   {api.OpAddi, "A,B,N", instruction},
		"andi":   {api.OpAndi, "A,B,N", instruction},
		"ori":    {api.OpOri, "A,B,N", instruction},
		"xori":   {api.OpXori, "A,B,N", instruction},
		"shli":   {api.OpShli, "A,B,N", instruction},
		"shri":   {api.OpShri, "A,B,N", instruction},
		"sari":   {api.OpSari, "A,B,N", instruction},
		"slti":   {api.OpSlti, "A,B,N", instruction},
		"lui":    {api.OpLui, "A,N", instruction},
		"lw":     {api.OpLw, "A,N(B)", instruction},
		"lb":     {api.OpLb, "A,N(B)", instruction},
		"lbu":    {api.OpLbu, "A,N(B)", instruction},
		"sw":     {api.OpSw, "A,N(B)", instruction},
		"sb":     {api.OpSb, "A,N(B)", instruction},
		"beq":    {api.OpBeq, "A,B,X", instruction},
		"bne":    {api.OpBne, "A,B,X", instruction},
		"blt":    {api.OpBlt, "A,B,X", instruction},
		"bge":    {api.OpBge, "A,B,X", instruction},
		"bltu":   {api.OpBltu, "A,B,X", instruction},
		"bgeu":   {api.OpBgeu, "A,B,X", instruction},
		"jal":    {api.OpJal, "A,X", instruction},
		"jalr":   {api.OpJalr, "A,B,N", instruction},
		"ecall":  {api.OpEcall, "", instruction},
		"eret":   {api.OpEret, "", instruction},
		"csrr":   {api.OpCsrr, "A,N", instruction},
		"csrw":   {api.OpCsrw, "A,N", instruction},
		"in":     {api.OpIn, "A,N", instruction},
		"out":    {api.OpOut, "A,N", instruction},
		"wfi":    {api.OpWfi, "", instruction},
		"flush":  {api.OpFlush, "", instruction},
		"halt":   {api.OpHalt, "", instruction},
		"mv":     {api.OpAddi, "A,B", instruction},
		"nop":    {api.OpAddi, "", instruction},
		"li":     {api.OpLui, "A,X", constant},
		".word":  {0, "X", data},
		".space": {0, "N", space},
	}
}

func instruction(op int, o operands) ([]draft, bool) {
	return []draft{{inst: api.Inst{Op: op, A: o.a, B: o.b, C: o.c}, x: o.x}}, true
}

// constant sets the upper half of a register first, because that clears the lower half.
func constant(op int, o operands) ([]draft, bool) {
	return []draft{
		{role: roleUpper, inst: api.Inst{Op: op, A: o.a}, x: o.x},
		{role: roleLower, inst: api.Inst{Op: api.OpOri, A: o.a, B: o.a}, x: o.x},
	}, true
}

func data(_ int, o operands) ([]draft, bool) {
	return []draft{{role: roleData, x: o.x}}, true
}

func space(_ int, o operands) ([]draft, bool) {
	n := o.x.number
	if n < 0 || n > maxSpace {
		return nil, false
	}
	var drafts []draft
	for range n {
		drafts = append(drafts, draft{role: roleData})
	}
	return drafts, true
}

// readStatement returns no words for a line without a statement.
func readStatement(table map[string]statement, tokens []string) ([]draft, bool) {
	if len(tokens) == 0 {
		return nil, true
	}
	s, ok := table[tokens[0]]
	if !ok {
		return nil, false
	}
	o, ok := readOperands(s.pattern, tokens[1:])
	if !ok {
		return nil, false
	}
	return s.words(s.op, o)
}

func readOperands(pattern string, tokens []string) (operands, bool) {
	if len(tokens) != len(pattern) {
		return operands{}, false
	}
	var o operands
	for i, token := range tokens {
		ok := false
		switch pattern[i] {
		case 'A':
			o.a, ok = readRegister(token)
		case 'B':
			o.b, ok = readRegister(token)
		case 'C':
			o.c, ok = readRegister(token)
		case 'N':
			o.x.number, ok = readNumber(token)
		case 'X':
			o.x, ok = readValue(token)
		default:
			ok = token == pattern[i:i+1]
		}
		if !ok {
			return operands{}, false
		}
	}
	return o, true
}
