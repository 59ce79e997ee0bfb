package asm

import (
	"math/big"
	"regexp"
	"strconv"
	"strings"

	"vmfleet/api"
	"vmfleet/isa"
)

// The model is a second assembler, written with regular expressions after the chapter's text and independently of the package. The tests compare the two.

// mnemonics has the chapter's instructions by the kinds of their operands: d, s and t are registers, n is a number, x a number or a label.
var mnemonics = map[string][]string{
	"d,s,t":  {"add", "sub", "and", "or", "xor", "shl", "shr", "sar", "mul", "div", "rem", "slt", "sltu"},
	"d,s,n":  {"addi", "andi", "ori", "xori", "shli", "shri", "sari", "slti", "jalr"},
	"d,n":    {"lui", "csrr", "csrw", "in", "out"},
	"d,n(s)": {"lw", "lb", "lbu", "sw", "sb"},
	"d,s,x":  {"beq", "bne", "blt", "bge", "bltu", "bgeu"},
	"d,x":    {"jal", "li"},
	"":       {"ecall", "eret", "wfi", "flush", "halt", "nop"},
	"d,s":    {"mv"},
	"x":      {".word"},
	"n":      {".space"},
}

// operations has the number of each instruction, by its mnemonic.
var operations = map[string]int{
	"add": api.OpAdd, "sub": api.OpSub, "and": api.OpAnd, "or": api.OpOr, "xor": api.OpXor, "shl": api.OpShl, "shr": api.OpShr, "sar": api.OpSar, "mul": api.OpMul, "div": api.OpDiv, "rem": api.OpRem, "slt": api.OpSlt, "sltu": api.OpSltu,
	"addi": api.OpAddi, "andi": api.OpAndi, "ori": api.OpOri, "xori": api.OpXori, "shli": api.OpShli, "shri": api.OpShri, "sari": api.OpSari, "slti": api.OpSlti, "lui": api.OpLui,
	"lw": api.OpLw, "lb": api.OpLb, "lbu": api.OpLbu, "sw": api.OpSw, "sb": api.OpSb,
	"beq": api.OpBeq, "bne": api.OpBne, "blt": api.OpBlt, "bge": api.OpBge, "bltu": api.OpBltu, "bgeu": api.OpBgeu, "jal": api.OpJal, "jalr": api.OpJalr,
	"ecall": api.OpEcall, "eret": api.OpEret, "csrr": api.OpCsrr, "csrw": api.OpCsrw, "in": api.OpIn, "out": api.OpOut, "wfi": api.OpWfi, "flush": api.OpFlush, "halt": api.OpHalt,
}

const (
	registerForm = `r(?:[0-9]|1[0-5])`
	decimalForm  = `-?[0-9]{1,10}`
	hexForm      = `0x[0-9a-f]{1,8}`
	nameForm     = `[a-z][a-z0-9_]{0,11}`
)

var (
	isRegister = regexp.MustCompile(`^` + registerForm + `$`)
	commented  = regexp.MustCompile(`(?s);.*`)
	labelled   = regexp.MustCompile(`^ *(` + nameForm + `) *:(.*)$`)
	blank      = regexp.MustCompile(`^ *$`)
	forms      = makeForms()
)

// form is the form of the statements of one mnemonic.
type form struct {
	mnemonic string
	kinds    string
	exp      *regexp.Regexp
}

func makeForms() []form {
	number := `(?:` + decimalForm + `|` + hexForm + `)`
	var list []form
	for kinds, names := range mnemonics {
		for _, name := range names {
			exp := `^ *` + regexp.QuoteMeta(name)
			for i, c := range kinds {
				if i == 0 {
					exp += ` +`
				} else {
					exp += ` *`
				}
				switch c {
				case 'd', 's', 't':
					exp += `(` + registerForm + `)`
				case 'n':
					exp += `(` + number + `)`
				case 'x':
					exp += `(` + number + `|` + nameForm + `)`
				default:
					exp += regexp.QuoteMeta(string(c))
				}
			}
			list = append(list, form{name, kinds, regexp.MustCompile(exp + ` *$`)})
		}
	}
	return list
}

// modelStatement is a statement: its mnemonic, its operands by their kinds, its line and its address.
type modelStatement struct {
	mnemonic string
	operands map[byte]string
	line     int
	addr     int
}

// reg returns the number of a register operand.
func (s modelStatement) reg(kind byte) int {
	n, _ := strconv.Atoi(strings.TrimPrefix(s.operands[kind], "r"))
	return n
}

// modelNumber returns the number that a text of its form denotes, and whether it is in range.
func modelNumber(text string) (*big.Int, bool) {
	n, ok := new(big.Int), true
	if strings.HasPrefix(text, "0x") {
		n, ok = n.SetString(text[2:], 16)
	} else {
		n, ok = n.SetString(text, 10)
	}
	if !ok {
		return new(big.Int), false
	}
	return n, n.Cmp(big.NewInt(-1<<31)) >= 0 && n.Cmp(big.NewInt(1<<32-1)) <= 0
}

// modelParse matches the text of a statement.
func modelParse(text string) (modelStatement, bool) {
	for _, f := range forms {
		m := f.exp.FindStringSubmatch(text)
		if m == nil {
			continue
		}
		s := modelStatement{mnemonic: f.mnemonic, operands: map[byte]string{}}
		for _, c := range []byte(f.kinds) {
			if !strings.ContainsRune("dstnx", rune(c)) {
				continue
			}
			m = m[1:]
			s.operands[c] = m[0]
			if c == 'x' && isRegister.MatchString(m[0]) {
				return s, false
			}
			if c == 'n' || c == 'x' && (m[0][0] < 'a' || m[0][0] > 'z') {
				n, ok := modelNumber(m[0])
				if !ok || f.mnemonic == ".space" && (n.Sign() < 0 || n.Cmp(big.NewInt(1024)) > 0) {
					return s, false
				}
			}
		}
		return s, true
	}
	return modelStatement{}, false
}

// size returns the number of words of a statement.
func (s modelStatement) size() int {
	switch s.mnemonic {
	case ".space":
		n, _ := modelNumber(s.operands['n'])
		return int(n.Int64())
	case "li":
		return 2
	}
	return 1
}

// model is Assemble and Symbols.
func model(src string) ([]uint32, []api.Symbol, api.SourceError) {
	if len(src) > 8192 {
		return nil, nil, api.SourceError{Err: api.ErrAsmLong}
	}
	var list []modelStatement
	var symbols []api.Symbol
	addrs := map[string]int{}
	addr := 0
	for i, line := range strings.Split(src, "\n") {
		fail := func(e api.Errno) ([]uint32, []api.Symbol, api.SourceError) {
			return nil, nil, api.SourceError{Err: e, Line: i + 1}
		}
		text := commented.ReplaceAllString(line, "")
		label := labelled.FindStringSubmatch(text)
		if label != nil {
			text = label[2]
		}
		s, ok := modelParse(text)
		if label != nil && isRegister.MatchString(label[1]) || !ok && !blank.MatchString(text) {
			return fail(api.ErrAsmForm)
		}
		if label != nil {
			if _, twice := addrs[label[1]]; twice {
				return fail(api.ErrAsmTwice)
			}
			addrs[label[1]] = addr
			symbols = append(symbols, api.Symbol{Name: label[1], Addr: uint32(addr)})
		}
		if ok {
			s.line, s.addr = i+1, addr
			list = append(list, s)
			addr += 4 * s.size()
		}
		if addr > 4*1024 {
			return fail(api.ErrAsmLarge)
		}
	}
	var code []uint32
	for _, s := range list {
		words, e := s.words(addrs)
		if e != api.OK {
			return nil, nil, api.SourceError{Err: e, Line: s.line}
		}
		code = append(code, words...)
	}
	return code, symbols, api.SourceError{}
}

// words returns the words of a statement, given all labels.
func (s modelStatement) words(addrs map[string]int) ([]uint32, api.Errno) {
	text := s.operands['n'] + s.operands['x']
	x := new(big.Int)
	target := 0
	if isLabel := text != "" && text[0] >= 'a'; isLabel {
		var ok bool
		if target, ok = addrs[text]; !ok {
			return nil, api.ErrAsmName
		}
		x.SetInt64(int64(target))
		if operations[s.mnemonic] != 0 {
			x.SetInt64(int64(target-s.addr) / 4)
		}
	} else if text != "" {
		x, _ = modelNumber(text)
	}
	word := uint32(new(big.Int).Mod(x, big.NewInt(1<<32)).Uint64())
	d := uint32(s.reg('d'))
	switch s.mnemonic {
	case ".space":
		return make([]uint32, s.size()), api.OK
	case ".word":
		return []uint32{word}, api.OK
	case "li":
		return []uint32{0x18000000 + d<<20 + word>>16, 0x12000000 + d<<20 + d<<16 + word%65536}, api.OK
	case "mv":
		return []uint32{0x10000000 + d<<20 + uint32(s.reg('s'))<<16}, api.OK
	case "nop":
		return []uint32{0x10000000}, api.OK
	}
	i := api.Inst{Op: operations[s.mnemonic], A: s.reg('d'), B: s.reg('s'), C: s.reg('t')}
	if x.Cmp(big.NewInt(-40000)) < 0 || x.Cmp(big.NewInt(70000)) > 0 {
		return nil, api.ErrAsmRange
	}
	i.Imm = int32(x.Int64())
	w, e := isa.Encode(i)
	if e != api.OK {
		return nil, api.ErrAsmRange
	}
	return []uint32{w}, api.OK
}
