package isa

import (
	"math"
	"strconv"
	"testing"

	"vmfleet/api"
)

// operation is a row of the chapter's tables, written out here independently of the package: the mnemonic, the fields that are used, the range of Imm, and the properties of P2.3.
type operation struct {
	op         int
	name       string
	fields     string // "abc", "abi", "a(b)", "ai" or ""
	low, high  int32
	privileged bool
	ends       bool
}

var operations = []operation{
	{api.OpAdd, "add", "abc", 0, 0, false, false},
	{api.OpSub, "sub", "abc", 0, 0, false, false},
	{api.OpAnd, "and", "abc", 0, 0, false, false},
	{api.OpOr, "or", "abc", 0, 0, false, false},
	{api.OpXor, "xor", "abc", 0, 0, false, false},
	{api.OpShl, "shl", "abc", 0, 0, false, false},
	{api.OpShr, "shr", "abc", 0, 0, false, false},
	{api.OpSar, "sar", "abc", 0, 0, false, false},
	{api.OpMul, "mul", "abc", 0, 0, false, false},
	{api.OpDiv, "div", "abc", 0, 0, false, false},
	{api.OpRem, "rem", "abc", 0, 0, false, false},
	{api.OpSlt, "slt", "abc", 0, 0, false, false},
	{api.OpSltu, "sltu", "abc", 0, 0, false, false},
	{api.OpAddi, "addi", "abi", -32768, 32767, false, false},
	{api.OpAndi, "andi", "abi", 0, 65535, false, false},
	{api.OpOri, "ori", "abi", 0, 65535, false, false},
	{api.OpXori, "xori", "abi", 0, 65535, false, false},
	{api.OpShli, "shli", "abi", 0, 31, false, false},
	{api.OpShri, "shri", "abi", 0, 31, false, false},
	{api.OpSari, "sari", "abi", 0, 31, false, false},
	{api.OpSlti, "slti", "abi", -32768, 32767, false, false},
	{api.OpLui, "lui", "ai", 0, 65535, false, false},
	{api.OpLw, "lw", "a(b)", -32768, 32767, false, false},
	{api.OpLb, "lb", "a(b)", -32768, 32767, false, false},
	{api.OpLbu, "lbu", "a(b)", -32768, 32767, false, false},
	{api.OpSw, "sw", "a(b)", -32768, 32767, false, false},
	{api.OpSb, "sb", "a(b)", -32768, 32767, false, false},
	{api.OpBeq, "beq", "abi", -32768, 32767, false, true},
	{api.OpBne, "bne", "abi", -32768, 32767, false, true},
	{api.OpBlt, "blt", "abi", -32768, 32767, false, true},
	{api.OpBge, "bge", "abi", -32768, 32767, false, true},
	{api.OpBltu, "bltu", "abi", -32768, 32767, false, true},
	{api.OpBgeu, "bgeu", "abi", -32768, 32767, false, true},
	{api.OpJal, "jal", "ai", -32768, 32767, false, true},
	{api.OpJalr, "jalr", "abi", -32768, 32767, false, true},
	{api.OpEcall, "ecall", "", 0, 0, false, true},
	{api.OpEret, "eret", "", 0, 0, true, true},
	{api.OpCsrr, "csrr", "ai", 0, 7, true, true},
	{api.OpCsrw, "csrw", "ai", 0, 7, true, true},
	{api.OpIn, "in", "ai", 0, 11, true, true},
	{api.OpOut, "out", "ai", 0, 11, true, true},
	{api.OpWfi, "wfi", "", 0, 0, true, true},
	{api.OpFlush, "flush", "", 0, 0, true, true},
	{api.OpHalt, "halt", "", 0, 0, true, true},
}

// numbers returns numbers of operations, of registers and of bits that are valid for some field or no field.
func numbers() []int {
	return []int{math.MinInt, math.MinInt32, -65536, -256, -16, -1, 0, 1, 2, 7, 14, 15, 16, 17, 31, 255, 256, 65535, 65536, math.MaxInt32, 1 << 32, 1<<32 + 1, math.MaxInt}
}

// immediateCases has both sides of every limit of an Imm.
var immediateCases = []int32{math.MinInt32, -65536, -65535, -32769, -32768, -32767, -256, -2, -1, 0, 1, 2, 7, 8, 9, 11, 12, 13, 30, 31, 32, 255, 256, 32766, 32767, 32768, 65534, 65535, 65536, 65537, math.MaxInt32}

// rows has the index in operations of each operation's row.
var rows = func() map[int]int {
	m := map[int]int{}
	for i, o := range operations {
		m[o.op] = i
	}
	return m
}()

// find returns the row of an operation, or nil.
func find(op int) *operation {
	if i, ok := rows[op]; ok {
		return &operations[i]
	}
	return nil
}

// uses tells whether the operation has the field.
func (o *operation) uses(field byte) bool {
	for i := range len(o.fields) {
		if o.fields[i] == field {
			return true
		}
	}
	return false
}

// allows tells whether a register field may have the number r.
func (o *operation) allows(field byte, r int) bool {
	return r == 0 || o.uses(field) && r >= 1 && r <= 15
}

// wantValid is Valid, from the table above.
func wantValid(i api.Inst) bool {
	o := find(i.Op)
	return o != nil && o.allows('a', i.A) && o.allows('b', i.B) && o.allows('c', i.C) && i.Imm >= o.low && i.Imm <= o.high
}

// wantWord is the word of a valid instruction: no more than one of C and Imm is other than 0.
func wantWord(i api.Inst) uint32 {
	return uint32(i.Op<<24 + i.A<<20 + i.B<<16 + i.C + (int(i.Imm)+65536)%65536)
}

// wantFormat is Format of a valid instruction.
func wantFormat(i api.Inst) string {
	o := find(i.Op)
	a, b, c, imm := strconv.Itoa(i.A), strconv.Itoa(i.B), strconv.Itoa(i.C), strconv.Itoa(int(i.Imm))
	switch o.fields {
	case "abc":
		return o.name + " r" + a + ", r" + b + ", r" + c
	case "abi":
		return o.name + " r" + a + ", r" + b + ", " + imm
	case "a(b)":
		return o.name + " r" + a + ", " + imm + "(r" + b + ")"
	case "ai":
		return o.name + " r" + a + ", " + imm
	}
	return o.name
}

// check checks Valid, Encode, Decode and Format of one instruction: P2.1, P2.2 and the first sentence of P2.4.
func check(t *testing.T, i api.Inst) {
	t.Helper()
	w, e := Encode(i)
	if !wantValid(i) {
		if Valid(i) || w != 0 || e != api.ErrIsaForm || Format(i) != "" {
			t.Fatalf("invalid %+v: Valid %v, Encode %#x %d, Format %q", i, Valid(i), w, e, Format(i))
		}
		return
	}
	if !Valid(i) || w != wantWord(i) || e != api.OK {
		t.Fatalf("%+v: Valid %v, Encode %#x %d, want %#x", i, Valid(i), w, e, wantWord(i))
	}
	if got := Format(i); got != wantFormat(i) {
		t.Fatalf("%+v: Format %q, want %q", i, got, wantFormat(i))
	}
	if got, ok := Decode(w); got != i || !ok {
		t.Fatalf("%+v: Decode(%#x) = %+v, %v", i, w, got, ok)
	}
}

// TestExamples checks P2.1 with the chapter's examples and one word of each layout, and that the fields are where the chapter says.
func TestExamples(t *testing.T) {
	for _, c := range []struct {
		i api.Inst
		w uint32
	}{
		{api.Inst{Op: api.OpAddi, A: 1, B: 2, Imm: -1}, 0x1012FFFF},
		{api.Inst{Op: api.OpAdd, A: 1, B: 2, C: 3}, 0x01120003},
		{api.Inst{Op: api.OpSub, A: 15, B: 14, C: 13}, 0x02FE000D},
		{api.Inst{Op: api.OpAndi, A: 3, B: 4, Imm: 65535}, 0x1134FFFF},
		{api.Inst{Op: api.OpSari, A: 3, B: 4, Imm: 31}, 0x1634001F},
		{api.Inst{Op: api.OpLui, A: 9, Imm: 0x8000}, 0x18908000},
		{api.Inst{Op: api.OpLw, A: 1, B: 2, Imm: -32768}, 0x20128000},
		{api.Inst{Op: api.OpJal, A: 15, Imm: -3}, 0x30F0FFFD},
		{api.Inst{Op: api.OpJalr, A: 0, B: 15, Imm: 32767}, 0x310F7FFF},
		{api.Inst{Op: api.OpCsrw, A: 5, Imm: 7}, 0x3B500007},
		{api.Inst{Op: api.OpOut, A: 5, Imm: 11}, 0x3D50000B},
		{api.Inst{Op: api.OpEcall}, 0x38000000},
		{api.Inst{Op: api.OpHalt}, 0x40000000},
	} {
		if w, e := Encode(c.i); w != c.w || e != api.OK {
			t.Errorf("Encode(%+v) = %#x, %d, want %#x", c.i, w, e, c.w)
		}
		if i, ok := Decode(c.w); i != c.i || !ok {
			t.Errorf("Decode(%#x) = %+v, %v, want %+v", c.w, i, ok, c.i)
		}
	}
}

// TestInvalidWords checks P2.1: words that are the encoding of no instruction.
func TestInvalidWords(t *testing.T) {
	for _, w := range []uint32{
		// No such operation.
		0, 0x00120003, 0x0E000000, 0x0F000000, 0x19000000, 0x1F000000, 0x25000000, 0x2E000000, 0x32000000, 0x37000000, 0x41000000, 0x81120003, 0xFFFFFFFF,
		// C has bits beyond the register number.
		0x01120010, 0x01120013, 0x0112FFF3, 0x01128003,
		// Imm is out of range.
		0x14450020, 0x1645FFFF, 0x3A100008, 0x3B10FFFF, 0x3C10000C, 0x3D108000,
		// A field that is not used is not 0.
		0x18610000, 0x30010000, 0x3A110000, 0x3C180000, 0x38100000, 0x39010000, 0x3E000001, 0x3F008000, 0x40000001,
	} {
		if i, ok := Decode(w); i != (api.Inst{}) || ok {
			t.Errorf("Decode(%#x) = %+v, %v", w, i, ok)
		}
	}
}

// TestOperands checks P2.1, P2.2 and P2.4 for every operation with all registers and with each limit of Imm, one field out of range at a time or several.
func TestOperands(t *testing.T) {
	cases := numbers()
	for _, o := range operations {
		for _, a := range cases {
			for _, b := range cases {
				for _, imm := range immediateCases {
					check(t, api.Inst{Op: o.op, A: a, B: b, Imm: imm})
				}
				for _, c := range cases {
					check(t, api.Inst{Op: o.op, A: a, B: b, C: c})
				}
			}
		}
		for r := range 16 {
			check(t, api.Inst{Op: o.op, A: r, B: 15 - r, C: (r + 5) % 16})
			check(t, api.Inst{Op: o.op, A: r, B: 15 - r})
			check(t, api.Inst{Op: o.op, A: r, Imm: o.low})
			check(t, api.Inst{Op: o.op, C: 1, Imm: int32(r)})
		}
	}
}

// TestImmediates checks P2.1 and P2.2 for every Imm of every operation, and for those around its range.
func TestImmediates(t *testing.T) {
	for _, o := range operations {
		r := 0
		if o.uses('a') {
			r = 6
		}
		for imm := o.low - 40; imm <= o.high+40; imm++ {
			check(t, api.Inst{Op: o.op, A: r, Imm: imm})
		}
	}
}

// TestOtherOperations checks P2.1 and P2.2: a number that is no operation belongs to no valid instruction, also if its lower 8 bits are an operation.
func TestOtherOperations(t *testing.T) {
	list := numbers()
	for op := -300; op < 600; op++ {
		list = append(list, op, op+1<<32, op-1<<40)
	}
	for _, op := range list {
		check(t, api.Inst{Op: op})
		check(t, api.Inst{Op: op, A: 1, B: 2, C: 3})
		check(t, api.Inst{Op: op, A: 1, B: 2, Imm: 4})
		check(t, api.Inst{Op: op, A: 1, Imm: 5})
	}
}

// TestDecode checks P2.1 and the second sentence of P2.4: a word is either encoded again to itself, or no valid instruction has it as its encoding. Registers of 0 suit every operation, so that each gets all its 16-bit fields with them.
func TestDecode(t *testing.T) {
	for op := range 256 {
		for _, registers := range []uint32{0, 0x01, 0x10, 0x12, 0xF0, 0x0F, 0xFF} {
			all := find(op) != nil && registers == 0
			for last := range uint32(65536) {
				if all || nearLimit(last) {
					checkWord(t, uint32(op)<<24|registers<<16|last)
				}
			}
		}
	}
}

// nearLimit tells whether a 16-bit field is near a limit of C or Imm, or a multiple of a number that leaves all bits to occur.
func nearLimit(last uint32) bool {
	return last < 40 || last > 65500 || last > 32760 && last < 32776 || last%2047 == 0
}

// checkWord compares Decode with the only instructions whose encoding w may be: the 16-bit field is C, Imm, or Imm with 65536 subtracted.
func checkWord(t *testing.T, w uint32) {
	t.Helper()
	i := api.Inst{Op: int(w >> 24), A: int(w >> 20 & 15), B: int(w >> 16 & 15)}
	last := int(w & 65535)
	var want api.Inst
	found := false
	for _, x := range []struct{ c, imm int }{{last, 0}, {0, last}, {0, last - 65536}} {
		i.C, i.Imm = x.c, int32(x.imm)
		if wantValid(i) {
			want, found = i, true
		}
	}
	if got, ok := Decode(w); got != want || ok != found {
		t.Fatalf("Decode(%#x) = %+v, %v, want %+v, %v", w, got, ok, want, found)
	}
	if !found {
		return
	}
	if again, e := Encode(want); again != w || e != api.OK {
		t.Fatalf("Encode(%+v) = %#x, %d, want %#x", want, again, e, w)
	}
}

// TestFormat checks P2.2 with literal texts: one of each layout and the limits of the operands.
func TestFormat(t *testing.T) {
	for _, c := range []struct {
		i    api.Inst
		want string
	}{
		{api.Inst{Op: api.OpAdd, A: 1, B: 2, C: 3}, "add r1, r2, r3"},
		{api.Inst{Op: api.OpSltu, A: 10, B: 0, C: 15}, "sltu r10, r0, r15"},
		{api.Inst{Op: api.OpAddi, A: 1, B: 2, Imm: -5}, "addi r1, r2, -5"},
		{api.Inst{Op: api.OpSlti, A: 1, B: 2, Imm: -32768}, "slti r1, r2, -32768"},
		{api.Inst{Op: api.OpOri, A: 12, B: 11, Imm: 65535}, "ori r12, r11, 65535"},
		{api.Inst{Op: api.OpShri, A: 1, B: 2, Imm: 0}, "shri r1, r2, 0"},
		{api.Inst{Op: api.OpLui, A: 4, Imm: 65535}, "lui r4, 65535"},
		{api.Inst{Op: api.OpLw, A: 1, B: 2, Imm: 8}, "lw r1, 8(r2)"},
		{api.Inst{Op: api.OpLbu, A: 1, B: 2}, "lbu r1, 0(r2)"},
		{api.Inst{Op: api.OpSb, A: 0, B: 15, Imm: -32768}, "sb r0, -32768(r15)"},
		{api.Inst{Op: api.OpBltu, A: 3, B: 4, Imm: -7}, "bltu r3, r4, -7"},
		{api.Inst{Op: api.OpJal, A: 15, Imm: -3}, "jal r15, -3"},
		{api.Inst{Op: api.OpJalr, A: 0, B: 15, Imm: 4}, "jalr r0, r15, 4"},
		{api.Inst{Op: api.OpCsrr, A: 2, Imm: 7}, "csrr r2, 7"},
		{api.Inst{Op: api.OpIn, A: 2, Imm: 11}, "in r2, 11"},
		{api.Inst{Op: api.OpFlush}, "flush"},
		{api.Inst{}, ""},
		{api.Inst{Op: api.OpFlush, Imm: 1}, ""},
		{api.Inst{Op: api.OpShri, Imm: 32}, ""},
		{api.Inst{Op: api.OpHalt + 1}, ""},
		{api.Inst{Op: -1}, ""},
	} {
		if got := Format(c.i); got != c.want {
			t.Errorf("Format(%+v) = %q, want %q", c.i, got, c.want)
		}
	}
}

// TestFormatsDiffer checks P2.4: different valid instructions have different formats.
func TestFormatsDiffer(t *testing.T) {
	seen := map[string]api.Inst{}
	for _, o := range operations {
		for r := range 16 * 16 * 16 {
			for _, imm := range []int32{0, o.low, o.high, 1, 11, 1 + int32(r)} {
				i := api.Inst{Op: o.op, A: r % 16, B: r / 16 % 16, C: r / 256, Imm: imm}
				if !Valid(i) {
					continue
				}
				text := Format(i)
				if other, ok := seen[text]; ok && other != i {
					t.Fatalf("%+v and %+v have the format %q", other, i, text)
				}
				seen[text] = i
			}
		}
	}
	if len(seen) < 13*4096 {
		t.Errorf("%d formats", len(seen))
	}
}

// TestKinds checks P2.3 for every operation and for numbers that are none.
func TestKinds(t *testing.T) {
	list := numbers()
	for op := -300; op < 600; op++ {
		list = append(list, op, op+1<<32)
	}
	for _, op := range list {
		var want operation
		if o := find(op); o != nil {
			want = *o
		}
		if Privileged(op) != want.privileged || Ends(op) != want.ends {
			t.Errorf("%d: Privileged %v, Ends %v, want %v, %v", op, Privileged(op), Ends(op), want.privileged, want.ends)
		}
	}
}
