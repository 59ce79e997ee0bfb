package asm

import (
	"math"
	"strconv"
	"strings"

	"vmfleet/api"
)

const (
	numRegs    = 16
	maxDecimal = 10 // digits of a decimal number
	maxHex     = 8  // digits of a hexadecimal number
)

func cutLines(src string) []string {
	var lines []string
	start := 0
	for i, c := range src {
		if c == '\n' {
			lines = append(lines, src[start:i])
			start = i + 1
		}
	}
	return append(lines, src[start:])
}

// cutTokens returns the punctuation of a line, and all that lies between it and blanks. Bytes that are not allowed need no check of their own: they end up in a token that is no name, number, register or mnemonic.
func cutTokens(line string) []string {
	line, _, _ = strings.Cut(line, ";")
	var tokens []string
	start := 0
	for i, c := range line {
		if !strings.ContainsRune(" ,:()", c) {
			continue
		}
		if start < i {
			tokens = append(tokens, line[start:i])
		}
		if c != ' ' {
			tokens = append(tokens, line[i:i+1])
		}
		start = i + 1
	}
	if start < len(line) {
		tokens = append(tokens, line[start:])
	}
	return tokens
}

// cutLabel returns the label that the tokens of a line define, or an empty string, and the tokens of the statement.
func cutLabel(tokens []string) (string, []string, bool) {
	if len(tokens) < 2 || tokens[1] != ":" {
		return "", tokens, true
	}
	if !isName(tokens[0]) {
		return "", nil, false
	}
	return tokens[0], tokens[2:], true
}

// isName expects a token that is not empty.
func isName(token string) bool {
	if _, ok := readRegister(token); ok || len(token) > api.MaxLabel || !isLetter(token[0]) {
		return false
	}
	for i := range len(token) {
		if c := token[i]; !isLetter(c) && !isDigit(c) && c != '_' {
			return false
		}
	}
	return true
}

func isLetter(c byte) bool {
	return c >= 'a' && c <= 'z'
}

func isDigit(c byte) bool {
	return c >= '0' && c <= '9'
}

// readRegister compares with the spelling of each register, so that r01 is none.
func readRegister(token string) (int, bool) {
	for r := range numRegs {
		if token == "r"+strconv.Itoa(r) {
			return r, true
		}
	}
	return 0, false
}

func readValue(token string) (value, bool) {
	if isName(token) {
		return value{label: token}, true
	}
	n, ok := readNumber(token)
	return value{number: n}, ok
}

func readNumber(token string) (int64, bool) {
	if digits, ok := strings.CutPrefix(token, "0x"); ok {
		return readDigits(digits, 16, maxHex)
	}
	digits, negative := strings.CutPrefix(token, "-")
	n, ok := readDigits(digits, 10, maxDecimal)
	if negative {
		n = -n
	}
	if !ok || n < math.MinInt32 || n > math.MaxUint32 {
		return 0, false
	}
	return n, true
}

// readDigits is stricter than strconv, which accepts signs and upper-case digits.
func readDigits(digits string, base, most int) (int64, bool) {
	if digits == "" || len(digits) > most {
		return 0, false
	}
	var n int64
	for i := range len(digits) {
		d := strings.IndexByte("0123456789abcdef"[:base], digits[i])
		if d < 0 {
			return 0, false
		}
		n = n*int64(base) + int64(d)
	}
	return n, true
}
