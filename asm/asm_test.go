package asm

import (
	"math/rand"
	"slices"
	"strconv"
	"strings"
	"testing"

	"vmfleet/api"
	"vmfleet/isa"
)

// compare compares Assemble and Symbols with the model.
func compare(t *testing.T, src string) api.SourceError {
	t.Helper()
	wantCode, wantSymbols, want := model(src)
	code, e := Assemble(src)
	if e != want || !slices.Equal(code, wantCode) {
		t.Fatalf("%q: Assemble %08x, %v, want %08x, %v", src, code, e, wantCode, want)
	}
	symbols, e := Symbols(src)
	if e != want || !slices.Equal(symbols, wantSymbols) {
		t.Fatalf("%q: Symbols %v, %v, want %v, %v", src, symbols, e, wantSymbols, want)
	}
	return e
}

// check expects code and no error.
func check(t *testing.T, src string, want ...uint32) {
	t.Helper()
	if code, e := Assemble(src); e != (api.SourceError{}) || !slices.Equal(code, want) {
		t.Errorf("%q: %08x, %v, want %08x", src, code, e, want)
	}
	compare(t, src)
}

// checkError expects an error of Assemble and of Symbols, and nothing else.
func checkError(t *testing.T, src string, err api.Errno, line int) {
	t.Helper()
	want := api.SourceError{Err: err, Line: line}
	if code, e := Assemble(src); e != want || len(code) != 0 {
		t.Errorf("%.60q: Assemble %08x, %v, want %v", src, code, e, want)
	}
	if symbols, e := Symbols(src); e != want || len(symbols) != 0 {
		t.Errorf("%.60q: Symbols %v, %v, want %v", src, symbols, e, want)
	}
	compare(t, src)
}

// TestStatements checks P3.1: each kind of statement.
func TestStatements(t *testing.T) {
	check(t, "loop: addi r1, r1, -1\nbne r1, r0, loop", 0x1011FFFF, 0x2910FFFF)
	check(t, "")
	check(t, "\n\n ;\n a:\n")
	check(t, "add r1, r2, r3\nsltu r15, r14, r13", 0x01120003, 0x0DFE000D)
	check(t, "ori r1, r2, 0xffff\nsari r10, r9, 31\njalr r0, r15, -32768", 0x1212FFFF, 0x16A9001F, 0x310F8000)
	check(t, "lui r1, 65535\nlw r1, -4(r2)\nsb r3, 32767(r0)", 0x1810FFFF, 0x2012FFFC, 0x24307FFF)
	check(t, "bgeu r1, r2, -3\njal r15, 32767", 0x2D12FFFD, 0x30F07FFF)
	check(t, "csrr r1, 7\ncsrw r2, 0\nin r3, 11\nout r4, 0x00000001", 0x3A100007, 0x3B200000, 0x3C30000B, 0x3D400001)
	check(t, "ecall\neret\nwfi\nflush\nhalt", 0x38000000, 0x39000000, 0x3E000000, 0x3F000000, 0x40000000)
	check(t, ".word 0xdeadbeef\n.word -1\n.word 4294967295\n.word -2147483648", 0xDEADBEEF, 0xFFFFFFFF, 0xFFFFFFFF, 0x80000000)
	check(t, ".space 0\n.space 3\n.space -0\n.space 0x1", 0, 0, 0, 0)
	check(t, "li r5, 0x12345678\nli r5, -2\nli r0, 4294967295\nli r1, 65536", 0x18501234, 0x12555678, 0x1850FFFF, 0x1255FFFE, 0x1800FFFF, 0x1200FFFF, 0x18100001, 0x12110000)
	check(t, "mv r3, r15\nnop", 0x103F0000, 0x10000000)
}

// TestLabels checks P3.1: addresses and distances, before and after the definition.
func TestLabels(t *testing.T) {
	check(t, "jal r0, end\nnop\nend:", 0x30000002, 0x10000000)
	check(t, "a: beq r1, r2, a\nblt r1, r2, a\nbltu r1, r2, b\nb: bge r1, r2, b", 0x28120000, 0x2A12FFFF, 0x2C120001, 0x2B120000)
	check(t, ".space 2\na: .word a\n.word b\nli r1, b\nb:", 0, 0, 8, 24, 0x18100000, 0x12110018)
	check(t, ".word end\n.space 1023\nend:", append([]uint32{4096}, make([]uint32, 1023)...)...)
	check(t, "li r1, end\n.space 1022\nend:", append([]uint32{0x18100000, 0x12111000}, make([]uint32, 1022)...)...)
	check(t, "jal r1, end\n.space 1023\nend:", append([]uint32{0x30100400}, make([]uint32, 1023)...)...)
	check(t, "top: .space 1023\njal r1, top", append(make([]uint32, 1023), 0x3010FC01)...)
	// A label may have the name of a mnemonic, and of what is almost a register.
	check(t, "add: add r1, r2, r3\njal r0, add\nli: li r1, li\nnop : nop", 0x01120003, 0x3000FFFF, 0x18100000, 0x12110008, 0x10000000)
	check(t, "r16:\nr01:\n.word r01\n.word r16\njal r1, r16", 0, 0, 0x3010FFFE)
	check(t, "r: .word r\nr100: .word r100\nr1a: jal r0, r1a", 0, 4, 0x30000000)
	check(t, "abcdefghijkl: .word abcdefghijkl\na_0__: .word a_0__", 0, 4)
	// Without blanks around the colon, and on a line of its own.
	check(t, "a:nop\nb:\n\n;\n c :halt\n.word b\n.word c", 0x10000000, 0x40000000, 4, 4)
}

// TestSymbols checks P3.2.
func TestSymbols(t *testing.T) {
	for _, c := range []struct {
		src  string
		want []api.Symbol
	}{
		{"", nil},
		{"nop", nil},
		{"z:\ny: nop\nx: li r1, z\nb: .space 5\na:", []api.Symbol{{Name: "z"}, {Name: "y"}, {Name: "x", Addr: 4}, {Name: "b", Addr: 12}, {Name: "a", Addr: 32}}},
		{"nop\n.space 1023\nend:", []api.Symbol{{Name: "end", Addr: 4096}}},
	} {
		if got, e := Symbols(c.src); e != (api.SourceError{}) || !slices.Equal(got, c.want) {
			t.Errorf("%q: %v, %v, want %v", c.src, got, e, c.want)
		}
		compare(t, c.src)
	}
}

// TestFresh checks that writing to a result changes no later one.
func TestFresh(t *testing.T) {
	src := "a: nop\nb: halt"
	code, _ := Assemble(src)
	symbols, _ := Symbols(src)
	clear(code)
	clear(symbols)
	check(t, src, 0x10000000, 0x40000000)
}

// TestBlanks checks the definition of a line: blanks between tokens, and comments.
func TestBlanks(t *testing.T) {
	check(t, "   a   :   add   r1   ,   r2   ,   r3   ", 0x01120003)
	check(t, "add r1,r2,r3", 0x01120003)
	check(t, "lw r1,4(r2)\nlw r1 , 4 ( r2 ) \nsw r1,-4 (r2) ;)", 0x20120004, 0x20120004, 0x2312FFFC)
	check(t, "nop;nop\nnop ; a: \t\x00\x01\x7f\x80\xff\xc3\xa4 ;; x\n;\n;a:\n ; ,", 0x10000000, 0x10000000)
	check(t, "nop;\xff\nhalt;\xc3\n.word 1;\xe2\x82\nwfi", 0x10000000, 0x40000000, 1, 0x3E000000)
	for _, src := range []string{"addr1, r2, r3", "add\tr1, r2, r3", "lir1, 1", ".word1", ".word-1", ".space0", "li r1, 1\r", "mv r 1, r2", ".word - 1", ".word 1 2", "a b: nop", "a: b: nop", "a::", ": nop", ":", "a:, nop"} {
		checkError(t, src, api.ErrAsmForm, 1)
	}
}

// TestBytes checks P3.1: outside of comments, bytes other than those of tokens are invalid; within comments all are valid.
func TestBytes(t *testing.T) {
	for c := range 256 {
		b := string([]byte{byte(c)})
		if b == "\n" {
			continue
		}
		for _, src := range []string{b, "nop" + b, b + "nop", "nop " + b, "a" + b + ":", "a:" + b, "mv r1" + b + ", r2", "mv r1, r2" + b, ".word " + b, ".word 1" + b, ".word a\na" + b + ":nop", "lw r1, 2" + b + "(r2)"} {
			if e := compare(t, src); (c < 32 || c > 126) && e.Err != api.ErrAsmForm {
				t.Errorf("%q: %v", src, e)
			}
		}
		check(t, "nop;"+b+";\nhalt", 0x10000000, 0x40000000)
	}
}

// TestForms checks P3.1: what does not follow the syntax.
func TestForms(t *testing.T) {
	for _, src := range []string{
		// No mnemonics.
		"x", "Nop", "NOP", "nopp", "no", "word 1", ".Word 1", ".", "..word 1", "subi r1, r2, 3", "move r1, r2", "r1", "5", "(", ",", "a",
		// A wrong number of operands.
		"add", "add r1", "add r1, r2", "add r1, r2, r3, r4", "nop r1", "nop 0", "halt,", "ecall r0", ".word", ".word 1, 2", ".space", ".space 1, 1", "li r1", "li r1, 2, 3", "mv r1", "mv r1, r2, r3", "jal 1", "jal r1, r2, 3", "lui r1, r2, 3", "lw r1", "lw r1, 4(r2), 1",
		// Commas and parentheses.
		"add r1 r2, r3", "add r1, r2, r3,", "add ,r1, r2, r3", "add r1,, r2, r3", "add, r1, r2, r3", "lw r1, 4(r2", "lw r1, 4 r2)", "lw r1, 4)r2(", "lw r1, (r2)", "lw r1, 4((r2))", "lw r1, r2", "lw r1, 4, r2", "lw r1, 4", "lw r1 4(r2)", "lw (r1), 4(r2)", "addi r1, 4(r2)", "jal (r1), 2", ".word (1)",
		// Registers.
		"mv r01, r2", "mv r1, r16", "mv r1, r-1", "mv r1, R2", "mv r1, 2", "mv r, r2", "mv 1, r2", "mv r1, r+2", "mv r1, r00", "lw r1, 4(r16)", "lw r16, 4(r1)", "lw r1, r2(r3)", "lw r1, 4(4)", "add r1, r2, r16", "add r1, r2, 3", "add r16, r1, r1", "add r1, r16, r1", "li r16, 1", "in r16, 1", "mv x, r1", "mv r1r, r1", "mv r0x1, r1", "mv r1, r115",
		// Numbers.
		".word 00000000001", ".word -00000000001", ".word 4294967296", ".word -2147483649", ".word 9999999999", ".word -4294967295", ".word 0x", ".word 0x123456789", ".word 0x000000001", ".word -0x1", ".word 0xA", ".word 0X1", ".word 0xg", ".word +1", ".word -", ".word --1", ".word 1-", ".word 1_0", ".word 1a", ".word 0b1", ".word 1.0", ".word x1x1x1x1x1x1x", ".word 0x-1", ".word 0x0x1", ".word 1e3",
		// Space.
		".space 1025", ".space -1", ".space 4294967295", ".space 0x401", ".space a\na:", ".space 4294967296",
		// Names.
		"r0: nop", "r9: nop", "r15: nop", "1a: nop", "_a: nop", "abcdefghijklm: nop", "A: nop", "aB: nop", "a.b: nop", "a-b: nop", ".word: nop", "add r1: nop", ".word r1", "jal r0, r15", "li r1, r1", ".word abcdefghijklm", ".word _a", ".word A", ".word a.b", ".word a b", "beq r1, r2, r3", "beq r1, r2, _",
		// A label where only a number is allowed.
		"addi r1, r2, a\na:", "lui r1, a\na:", "jalr r1, r2, a\na:", "lw r1, a(r2)\na:", "csrr r1, a\na:", "in r1, a\na:", "shli r1, r2, a\na:",
	} {
		checkError(t, src, api.ErrAsmForm, 1)
		checkError(t, "nop\nhalt\n"+src+" ; comment\nnop", api.ErrAsmForm, 3)
	}
}

// TestNumbers checks P3.1: numbers that are allowed.
func TestNumbers(t *testing.T) {
	for text, want := range map[string]uint32{
		"0": 0, "-0": 0, "7": 7, "-1": 0xFFFFFFFF, "0000000007": 7, "-0000000007": 0xFFFFFFF9, "0x0": 0, "0x7": 7, "0x00000007": 7, "0xffffffff": 0xFFFFFFFF, "0x80000000": 0x80000000, "0xabcdef09": 0xABCDEF09,
		"2147483647": 0x7FFFFFFF, "2147483648": 0x80000000, "4294967295": 0xFFFFFFFF, "-2147483648": 0x80000000, "-2147483647": 0x80000001, "0123456789": 123456789,
	} {
		check(t, ".word "+text, want)
		check(t, "li r1, "+text, 0x18100000+want>>16, 0x12110000+want%65536)
	}
}

// TestRanges checks P3.1: both sides of the limits of each operation's immediate.
func TestRanges(t *testing.T) {
	ranges := []struct {
		names     []string
		low, high int
	}{
		{[]string{"addi", "slti", "lw", "lb", "lbu", "sw", "sb", "beq", "bne", "blt", "bge", "bltu", "bgeu", "jalr", "jal"}, -32768, 32767},
		{[]string{"andi", "ori", "xori", "lui"}, 0, 65535},
		{[]string{"shli", "shri", "sari"}, 0, 31},
		{[]string{"csrr", "csrw"}, 0, 7},
		{[]string{"in", "out"}, 0, 11},
	}
	for _, r := range ranges {
		for _, name := range r.names {
			for _, x := range []int{-2147483648, -65536, r.low - 1, r.low, r.low + 1, r.high - 1, r.high, r.high + 1, 65536, 131071, 2147483647, 2147483648, 4294934528, 4294967295} {
				src := withImmediate(name, strconv.Itoa(x))
				if x < r.low || x > r.high {
					checkError(t, "nop\n"+src, api.ErrAsmRange, 2)
				} else if e := compare(t, src); e.Err != api.OK {
					t.Errorf("%q: %v", src, e)
				}
			}
		}
	}
}

// withImmediate returns a statement with that immediate.
func withImmediate(name, x string) string {
	switch {
	case slices.Contains(mnemonics["d,n(s)"], name):
		return name + " r1, " + x + "(r2)"
	case slices.Contains(mnemonics["d,n"], name) || name == "jal":
		return name + " r1, " + x
	}
	return name + " r1, r2, " + x
}

// TestOrder checks P3.1: which of several errors is returned.
func TestOrder(t *testing.T) {
	for _, c := range []struct {
		src  string
		err  api.Errno
		line int
	}{
		{"a: nop\na: nop", api.ErrAsmTwice, 2},
		{"a: nop\n\na:", api.ErrAsmTwice, 3},
		{"a:\na:", api.ErrAsmTwice, 2},
		{"a: nop\na: nop\nx", api.ErrAsmTwice, 2},
		{"x\na: nop\na: nop", api.ErrAsmForm, 1},
		{"a: nop\na: x", api.ErrAsmForm, 2},
		{"a: .space 1024\na: nop", api.ErrAsmTwice, 2},
		{"a: .space 1024\na: x", api.ErrAsmForm, 2},
		{".space 1024\nnop", api.ErrAsmLarge, 2},
		{".space 1024\nnop\nx", api.ErrAsmLarge, 2},
		{".space 1024\nx\nnop", api.ErrAsmForm, 2},
		{".space 1024\n.space 0\na:\n.word b", api.ErrAsmLarge, 4},
		{".space 1023\nli r1, a", api.ErrAsmLarge, 2},
		{".space 1022\nli r1, a", api.ErrAsmName, 2},
		{".space 600\n.space 600\na:\na:", api.ErrAsmLarge, 2},
		{"addi r1, r2, 32768\n.word a\nb:\nb:", api.ErrAsmTwice, 4},
		{"addi r1, r2, 32768\n.word a", api.ErrAsmRange, 1},
		{".word a\naddi r1, r2, 32768", api.ErrAsmName, 1},
		{".word a\nx", api.ErrAsmForm, 2},
		{"jal r0, a", api.ErrAsmName, 1},
		{"b: beq r1, r2, b\n\nbeq r1, r2, a", api.ErrAsmName, 3},
		{"li r1, a", api.ErrAsmName, 1},
		{"li r1, b\nb: li r1, a", api.ErrAsmName, 2},
		{".space 2\n.word r16", api.ErrAsmName, 2},
		{"nop\naddi r1, r2, 4294967295", api.ErrAsmRange, 2},
	} {
		checkError(t, c.src, c.err, c.line)
	}
}

// TestLarge checks P3.1: the limits of the source and of the program.
func TestLarge(t *testing.T) {
	for _, fill := range []string{"\n", " ", ";", "x", "a:\n", "nop\n"} {
		src := strings.Repeat(fill, api.MaxSource+1)
		checkError(t, src[:api.MaxSource+1], api.ErrAsmLong, 0)
		checkError(t, src+fill+fill, api.ErrAsmLong, 0)
		compare(t, src[:api.MaxSource])
	}
	check(t, strings.Repeat("\n", api.MaxSource-4)+"halt", 0x40000000)
	checkError(t, strings.Repeat("\n", api.MaxSource-1)+"x", api.ErrAsmForm, api.MaxSource)
	check(t, ".space 1024", make([]uint32, 1024)...)
	check(t, strings.Repeat("wfi\n", 1024), slices.Repeat([]uint32{0x3E000000}, 1024)...)
	checkError(t, strings.Repeat("wfi\n", 1025), api.ErrAsmLarge, 1025)
	checkError(t, strings.Repeat("wfi\n", 2000), api.ErrAsmLarge, 1025)
	check(t, strings.Repeat("li r1, 1\n", 512), slices.Repeat([]uint32{0x18100000, 0x12110001}, 512)...)
	checkError(t, "nop\n"+strings.Repeat("li r1, 1\n", 512), api.ErrAsmLarge, 513)
}

// randomInst returns a valid instruction.
func randomInst(random *rand.Rand) api.Inst {
	for {
		w := random.Uint32()
		switch random.Intn(3) {
		case 0:
			w &= 0xFFFF001F
		case 1:
			w &= 0xFFF00007
		}
		if i, ok := isa.Decode(w & 0x7FFFFFFF); ok {
			return i
		}
	}
}

// TestFormats checks P3.1: every instruction is assembled from its format.
func TestFormats(t *testing.T) {
	random := rand.New(rand.NewSource(1))
	seen := map[int]bool{}
	for range 20000 {
		i := randomInst(random)
		seen[i.Op] = true
		w, _ := isa.Encode(i)
		if code, e := Assemble(isa.Format(i)); e != (api.SourceError{}) || !slices.Equal(code, []uint32{w}) {
			t.Fatalf("%q: %08x, %v, want %08x", isa.Format(i), code, e, w)
		}
	}
	if len(seen) != len(operations) {
		t.Errorf("%d operations", len(seen))
	}
}

// TestDisassemble checks P3.3.
func TestDisassemble(t *testing.T) {
	for _, c := range []struct {
		code []uint32
		want string
	}{
		{nil, ""},
		{[]uint32{}, ""},
		{[]uint32{0}, ".word 0x00000000\n"},
		{[]uint32{0x1012FFFF, 0x40000000}, "addi r1, r2, -1\nhalt\n"},
		{[]uint32{0xFFFFFFFF, 0x0ABCDEF1, 0x00000010, 0x40000001}, ".word 0xffffffff\n.word 0x0abcdef1\n.word 0x00000010\n.word 0x40000001\n"},
		{[]uint32{0x2012FFFC, 0x30F0FFFD, 0x01120003, 0x3C10000C}, "lw r1, -4(r2)\njal r15, -3\nadd r1, r2, r3\n.word 0x3c10000c\n"},
	} {
		if got := Disassemble(c.code); got != c.want {
			t.Errorf("%08x: %q, want %q", c.code, got, c.want)
		}
	}
	// The limits of Assemble do not concern Disassemble.
	if got := Disassemble(make([]uint32, 5000)); got != strings.Repeat(".word 0x00000000\n", 5000) {
		t.Errorf("%d bytes", len(got))
	}
}

// TestRoundTrip checks P3.4.
func TestRoundTrip(t *testing.T) {
	random := rand.New(rand.NewSource(2))
	long := 0
	for range 300 {
		code := make([]uint32, random.Intn(1100))
		for i := range code {
			if random.Intn(2) == 0 {
				code[i] = random.Uint32()
			} else {
				code[i], _ = isa.Encode(randomInst(random))
			}
		}
		text := Disassemble(code)
		got, e := Assemble(text)
		if len(text) > api.MaxSource {
			long++
			if e != (api.SourceError{Err: api.ErrAsmLong}) {
				t.Fatalf("%d bytes: %v", len(text), e)
			}
		} else if e != (api.SourceError{}) || !slices.Equal(got, code) {
			t.Fatalf("%08x: %08x, %v", code, got, e)
		}
	}
	if long == 0 || long == 300 {
		t.Errorf("%d sources are too long", long)
	}
	full := slices.Repeat([]uint32{0x10000000 + 0x01000000}, 256)
	full = append(full, slices.Repeat([]uint32{0x40000000}, 768)...)
	if got, e := Assemble(Disassemble(full)); e != (api.SourceError{}) || !slices.Equal(got, full) {
		t.Errorf("full memory: %v", e)
	}
}

// pieces are what random sources are made of.
var pieces = []string{"a", "b", "a:", "b:", "c :", "loop", "r0", "r1", "r15", "r16", "r01", ",", ",", ", ", " ", " ", "  ", ":", "(", ")", ";", "\n", "\n", "\n", "-", "0", "1", "-1", "31", "32", "65535", "-32768", "4294967295", "0xffff", "0x12345678", ".word ", ".space ", ".space 900\n", "li ", "mv ", "nop", "nop\n", "add ", "addi ", "lw ", "sw", "beq ", "jal ", "lui ", "halt", "csrr ", "in ", "shli ", "\t", "\xff", "A", "_", "abcdefghijkl", "abcdefghijklm"}

// templates are lines in which $ is replaced by a register, # by a number, @ by a name, and sometimes each by one of the others.
var templates = []string{"add $,$,$", "addi $, $, #", "shli $,$,#", "lw $, #($)", "beq $, $ , @", "bge $,$,#", "jal $, @", "jal $, #", "lui $,#", "csrw $, #", "in $,#", "li $, @", "li $, #", "mv $, $", ".word @", ".word #", ".space 2", ".space 400", ".space #", "nop", "ecall", "@: nop", "@ : li $, @", "@:", "@: .space 30", "; @ @", ""}

// fills has the replacements.
var fills = map[rune][]string{
	'$': {"r0", "r1", "r7", "r15"},
	'#': {"0", "1", "7", "-1", "12", "31", "32", "300", "1024", "32767", "32768", "-32768", "65535", "65536", "0xff", "0xffffffff"},
	'@': {"a", "b", "c", "loop"},
	'?': {"r0", "r16", "r01", "a", "1", "-1", "4294967296", "-2147483648", "0x1", ""},
}

// randomLine fills a template.
func randomLine(random *rand.Rand) string {
	line := ""
	for _, c := range templates[random.Intn(len(templates))] {
		list, ok := fills[c]
		if !ok {
			line += string(c)
			continue
		}
		if random.Intn(40) == 0 {
			list = fills['?']
		}
		line += list[random.Intn(len(list))]
	}
	return line + "\n"
}

// TestRandom compares P3.1 and P3.2 with the model: with sources that are mostly wrong, and with sources of which some are right.
func TestRandom(t *testing.T) {
	random := rand.New(rand.NewSource(3))
	seen := map[api.Errno]int{}
	for range 6000 {
		src := ""
		for range random.Intn(12) {
			src += pieces[random.Intn(len(pieces))]
		}
		seen[compare(t, src).Err]++
	}
	for range 6000 {
		src := ""
		for range 1 + random.Intn(8) {
			src += randomLine(random)
		}
		seen[compare(t, src).Err]++
	}
	for _, e := range []api.Errno{api.OK, api.ErrAsmForm, api.ErrAsmName, api.ErrAsmTwice, api.ErrAsmRange, api.ErrAsmLarge} {
		if seen[e] < 50 {
			t.Errorf("error %d: %d sources", e, seen[e])
		}
	}
}
