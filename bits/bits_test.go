package bits

import (
	"encoding/binary"
	"hash/fnv"
	"math"
	"strings"
	"testing"

	"vmfleet/api"
)

// words are edge cases of words; the tests below combine them with each other.
var words = []uint32{0, 1, 2, 3, 7, 0x7F, 0x80, 0xFF, 0x100, 0x7FFF, 0x8000, 0xFFFF, 0x10000, 0x12345678, 0x7FFFFFFE, 0x7FFFFFFF, 0x80000000, 0x80000001, 0xAAAAAAAA, 0xDEADBEEF, 0xFFFFFFF9, 0xFFFFFFFE, 0xFFFFFFFF}

// sizes are edge cases of bit numbers and of numbers of bits.
var sizes = []int{math.MinInt, math.MinInt32, -33, -32, -31, -1, 0, 1, 2, 7, 8, 15, 16, 30, 31, 32, 33, 63, 64, 65, math.MaxInt32, math.MaxInt - 31, math.MaxInt}

// TestSignExtend checks P1.1, SignExtend.
func TestSignExtend(t *testing.T) {
	for _, c := range []struct {
		x    uint32
		n    int
		want uint32
	}{
		{0xFFFF, 16, 0xFFFFFFFF},
		{0x7FFF, 16, 0x7FFF},
		{0xABCD8000, 16, 0xFFFF8000},
		{0xABCD7FFF, 16, 0x00007FFF},
		{0x80, 8, 0xFFFFFF80},
		{0x180, 8, 0xFFFFFF80},
		{0x17F, 8, 0x7F},
		{1, 1, 0xFFFFFFFF},
		{2, 1, 0},
		{0x40000000, 31, 0xC0000000},
		{0xBFFFFFFF, 31, 0x3FFFFFFF},
		{0x80000001, 32, 0x80000001},
		{0x80000001, 33, 0x80000001},
		{0x80000001, 64, 0x80000001},
		{0xDEADBEEF, math.MaxInt, 0xDEADBEEF},
		{0xFFFFFFFF, 0, 0},
		{0xFFFFFFFF, -1, 0},
		{0xFFFFFFFF, -32, 0},
		{0xFFFFFFFF, math.MinInt, 0},
	} {
		if got := SignExtend(c.x, c.n); got != c.want {
			t.Errorf("SignExtend(%#x, %d) = %#x, want %#x", c.x, c.n, got, c.want)
		}
	}
}

// TestSignExtendEveryBit compares SignExtend with a bit by bit definition.
func TestSignExtendEveryBit(t *testing.T) {
	for _, x := range words {
		for n := 1; n <= 32; n++ {
			var want uint32
			for i := range 32 {
				want |= x >> min(i, n-1) & 1 << i
			}
			if got := SignExtend(x, n); got != want {
				t.Errorf("SignExtend(%#x, %d) = %#x, want %#x", x, n, got, want)
			}
		}
	}
}

// TestField checks P1.1, Field.
func TestField(t *testing.T) {
	for _, c := range []struct {
		w      uint32
		low, n int
		want   uint32
	}{
		{0x12345678, 8, 8, 0x56},
		{0x12345678, 0, 4, 8},
		{0x12345678, 4, 3, 7},
		{0x12345678, 28, 4, 1},
		{0x12345678, 28, 8, 1},
		{0x12345678, 0, 32, 0x12345678},
		{0x12345678, 0, 33, 0x12345678},
		{0x12345678, 16, math.MaxInt, 0x1234},
		{0x80000000, 31, 1, 1},
		{0x80000000, 31, 99, 1},
		{0xFFFFFFFF, -1, 8, 0},
		{0xFFFFFFFF, math.MinInt, 8, 0},
		{0xFFFFFFFF, 32, 1, 0},
		{0xFFFFFFFF, math.MaxInt, math.MaxInt, 0},
		{0xFFFFFFFF, 0, 0, 0},
		{0xFFFFFFFF, 0, -1, 0},
		{0xFFFFFFFF, 31, math.MinInt, 0},
	} {
		if got := Field(c.w, c.low, c.n); got != c.want {
			t.Errorf("Field(%#x, %d, %d) = %#x, want %#x", c.w, c.low, c.n, got, c.want)
		}
	}
}

// inField tells whether bit i of a word belongs to the field; it avoids low+n, which can overflow.
func inField(i, low, n int) bool {
	return low >= 0 && low <= 31 && n >= 1 && i >= low && i-low < n
}

// TestFieldEveryBit compares Field and SetField with a bit by bit definition, for all edge cases of their arguments.
func TestFieldEveryBit(t *testing.T) {
	for _, w := range words {
		for _, low := range sizes {
			for _, n := range sizes {
				var want uint32
				for i := range 32 {
					if inField(i, low, n) {
						want |= w >> i & 1 << (i - low)
					}
				}
				if got := Field(w, low, n); got != want {
					t.Fatalf("Field(%#x, %d, %d) = %#x, want %#x", w, low, n, got, want)
				}
				for _, v := range words {
					checkSetField(t, w, low, n, v)
				}
			}
		}
	}
}

func checkSetField(t *testing.T, w uint32, low, n int, v uint32) {
	t.Helper()
	var want uint32
	for i := range 32 {
		if inField(i, low, n) {
			want |= v >> (i - low) & 1 << i
		} else {
			want |= w & (1 << i)
		}
	}
	if got := SetField(w, low, n, v); got != want {
		t.Fatalf("SetField(%#x, %d, %d, %#x) = %#x, want %#x", w, low, n, v, got, want)
	}
}

// TestSetField checks P1.1, SetField.
func TestSetField(t *testing.T) {
	for _, c := range []struct {
		w      uint32
		low, n int
		v      uint32
		want   uint32
	}{
		{0x12345678, 8, 8, 0xAB, 0x1234AB78},
		{0x12345678, 8, 8, 0xFFFFFFAB, 0x1234AB78},
		{0xFFFFFFFF, 4, 4, 0, 0xFFFFFF0F},
		{0x12345678, 28, 8, 0xFF, 0xF2345678},
		{0x12345678, 28, 8, 0xF0, 0x02345678},
		{0x12345678, 0, 32, 7, 7},
		{0x12345678, 0, math.MaxInt, 7, 7},
		{0x12345678, 31, 1, 1, 0x92345678},
		{0x92345678, 31, math.MaxInt, 2, 0x12345678},
		{0x12345678, 32, 1, 1, 0x12345678},
		{0x12345678, 33, 1, 1, 0x12345678},
		{0x12345678, -1, 1, 1, 0x12345678},
		{0x12345678, math.MinInt, 8, 1, 0x12345678},
		{0x12345678, 0, 0, 1, 0x12345678},
		{0x12345678, 0, -1, 1, 0x12345678},
		{0x12345678, 4, math.MinInt, 1, 0x12345678},
	} {
		if got := SetField(c.w, c.low, c.n, c.v); got != c.want {
			t.Errorf("SetField(%#x, %d, %d, %#x) = %#x, want %#x", c.w, c.low, c.n, c.v, got, c.want)
		}
	}
}

// TestDivide checks P1.2 with the chapter's example and the cases that it names.
func TestDivide(t *testing.T) {
	for _, c := range []struct{ a, b, quotient, remainder uint32 }{
		{0xFFFFFFF9, 2, 0xFFFFFFFD, 0xFFFFFFFF},
		{7, 2, 3, 1},
		{7, 0xFFFFFFFE, 0xFFFFFFFD, 1},
		{0xFFFFFFF9, 0xFFFFFFFE, 3, 0xFFFFFFFF},
		{5, 7, 0, 5},
		{0xFFFFFFFB, 7, 0, 0xFFFFFFFB},
		{0, 5, 0, 0},
		{0, 0, 0xFFFFFFFF, 0},
		{7, 0, 0xFFFFFFFF, 7},
		{0x80000000, 0, 0xFFFFFFFF, 0x80000000},
		{0xFFFFFFFF, 0, 0xFFFFFFFF, 0xFFFFFFFF},
		{0x80000000, 0xFFFFFFFF, 0x80000000, 0},
		{0x80000001, 0xFFFFFFFF, 0x7FFFFFFF, 0},
		{0x80000000, 1, 0x80000000, 0},
		{0x80000000, 0x80000000, 1, 0},
		{0x7FFFFFFF, 0x80000000, 0, 0x7FFFFFFF},
		{0x80000000, 0x7FFFFFFF, 0xFFFFFFFF, 0xFFFFFFFF},
	} {
		if q, r := Divide(c.a, c.b); q != c.quotient || r != c.remainder {
			t.Errorf("Divide(%#x, %#x) = %#x, %#x, want %#x, %#x", c.a, c.b, q, r, c.quotient, c.remainder)
		}
	}
}

// TestDivideWide compares Divide with a division of 64-bit numbers, which does not overflow.
func TestDivideWide(t *testing.T) {
	for _, a := range words {
		for _, b := range words {
			if b == 0 {
				continue
			}
			x, y := int64(int32(a)), int64(int32(b))
			if q, r := Divide(a, b); q != uint32(x/y) || r != uint32(x%y) {
				t.Errorf("Divide(%#x, %#x) = %#x, %#x, want %#x, %#x", a, b, q, r, uint32(x/y), uint32(x%y))
			}
		}
	}
}

// texts are strings of ordinary, of arbitrary and of invalid UTF-8 bytes.
var texts = []string{"", "a", "foobar", "\x00", "\x00\x00", "\xff", "\x80\xc3", "\u00e4\u20ac", strings.Repeat("vmfleet\n", 1000)}

// TestHash checks P1.3 with published values of FNV-1a and with hashes that start elsewhere.
func TestHash(t *testing.T) {
	for _, c := range []struct {
		h    uint64
		s    string
		want uint64
	}{
		{api.HashStart, "", 0xCBF29CE484222325},
		{api.HashStart, "a", 0xAF63DC4C8601EC8C},
		{api.HashStart, "b", 0xAF63DF4C8601F1A5},
		{api.HashStart, "foobar", 0x85944171F73967E8},
		{0, "", 0},
		{0, "\x00", 0},
		{0, "\x01", 1099511628211},
		{math.MaxUint64, "\xff", 0xFFFEFFFFFFFE4D00},
	} {
		if got := Hash(c.h, c.s); got != c.want {
			t.Errorf("Hash(%#x, %q) = %#x, want %#x", c.h, c.s, got, c.want)
		}
	}
}

// TestHashLibrary compares Hash with Go's FNV-1a.
func TestHashLibrary(t *testing.T) {
	for _, s := range texts {
		library := fnv.New64a()
		library.Write([]byte(s))
		if got := Hash(api.HashStart, s); got != library.Sum64() {
			t.Errorf("Hash of %.20q = %#x, want %#x", s, got, library.Sum64())
		}
	}
}

// TestHashContinued checks P1.6: a hash may be computed in parts.
func TestHashContinued(t *testing.T) {
	for _, h := range []uint64{api.HashStart, 0, 1, math.MaxUint64} {
		for _, a := range texts {
			for _, b := range texts {
				if got, want := Hash(Hash(h, a), b), Hash(h, a+b); got != want {
					t.Errorf("%#x, %.20q, %.20q: %#x, want %#x", h, a, b, got, want)
				}
			}
		}
	}
}

// TestNext checks P1.4 with published values of SplitMix64, and with seeds that wrap around.
func TestNext(t *testing.T) {
	for _, c := range []struct {
		seed   uint64
		values []uint64
	}{
		{0, []uint64{0xE220A8397B1DCDAF, 0x6E789E6AA1B965F4, 0x06C45D188009454F, 0xF88BB8A8724C81EC, 0x1B39896A51A8749B}},
		{1234567, []uint64{6457827717110365317, 3203168211198807973, 9817491932198370423, 4593380528125082431, 16408922859458223821}},
		{math.MaxUint64 - 0x9E3779B97F4A7C15 + 1, []uint64{0, 0xE220A8397B1DCDAF}},
	} {
		seed := c.seed
		for i, want := range c.values {
			value, next := Next(seed)
			if value != want || next != seed+0x9E3779B97F4A7C15 {
				t.Errorf("seed %d, value %d: %#x and %#x, want %#x and %#x", c.seed, i, value, next, want, seed+0x9E3779B97F4A7C15)
			}
			seed = next
		}
	}
}

// TestNextKeepsNothing checks that a call depends on its argument alone.
func TestNextKeepsNothing(t *testing.T) {
	value, seed := Next(42)
	Next(seed)
	if again, seedAgain := Next(42); again != value || seedAgain != seed {
		t.Errorf("Next(42) = %#x, %#x, then %#x, %#x", value, seed, again, seedAgain)
	}
}

// numbers returns 0, and each power of two with its neighbours.
func numbers() []uint64 {
	list := []uint64{0, 300, 0x0123456789ABCDEF, math.MaxUint64}
	for i := range 64 {
		power := uint64(1) << i
		list = append(list, power-1, power, power+1)
	}
	return list
}

// TestPutUvarint checks P1.5, PutUvarint.
func TestPutUvarint(t *testing.T) {
	for _, c := range []struct {
		x    uint64
		want string
	}{
		{0, "\x00"},
		{1, "\x01"},
		{127, "\x7f"},
		{128, "\x80\x01"},
		{300, "\xac\x02"},
		{16383, "\xff\x7f"},
		{16384, "\x80\x80\x01"},
		{1<<63 - 1, "\xff\xff\xff\xff\xff\xff\xff\xff\x7f"},
		{1 << 63, "\x80\x80\x80\x80\x80\x80\x80\x80\x80\x01"},
		{math.MaxUint64, "\xff\xff\xff\xff\xff\xff\xff\xff\xff\x01"},
	} {
		if got := PutUvarint(c.x); got != c.want {
			t.Errorf("PutUvarint(%d) = %x, want %x", c.x, got, c.want)
		}
	}
	for _, x := range numbers() {
		if got, want := PutUvarint(x), string(binary.AppendUvarint(nil, x)); got != want {
			t.Errorf("PutUvarint(%d) = %x, want %x", x, got, want)
		}
	}
}

// TestUvarintInvalid checks P1.5: strings of which no prefix is an encoding.
func TestUvarintInvalid(t *testing.T) {
	nine := strings.Repeat("\xff", 9)
	zeros := strings.Repeat("\x80", 9)
	for _, s := range []string{
		// It ends too early.
		"", "\x80", "\xff", "\xac\x82", nine, zeros,
		// The encoding is longer than necessary.
		"\x80\x00", "\xff\x00", "\xac\x82\x00", "\x80\x80\x00\x01", nine + "\x00", zeros + "\x00", zeros + "\x80\x00",
		// The number has more than 64 bits.
		nine + "\x02", nine + "\x03", nine + "\x7f", zeros + "\x02", nine + "\x80\x01", nine + "\x81\x01", nine + "\xff\x01", strings.Repeat("\xff", 100) + "\x01",
		// It ends too early and has too many groups.
		nine + "\xff", nine + "\x81", strings.Repeat("\x80", 1000),
	} {
		for _, tail := range []string{"", "\xff"} {
			if x, n, ok := Uvarint(s + tail); x != 0 || n != 0 || ok {
				t.Errorf("Uvarint(%x) = %d, %d, %v", s+tail, x, n, ok)
			}
		}
	}
}

// TestUvarintShort checks P1.5 for all strings of up to two bytes.
func TestUvarintShort(t *testing.T) {
	for a := range 256 {
		checkUvarint(t, string([]byte{byte(a)}), uint64(a), 1, a < 128)
		for b := range 256 {
			s := string([]byte{byte(a), byte(b)})
			if a < 128 {
				checkUvarint(t, s, uint64(a), 1, true)
			} else {
				checkUvarint(t, s, uint64(a-128+b*128), 2, b > 0 && b < 128)
			}
		}
	}
}

// checkUvarint expects x and n if ok, and otherwise zero values.
func checkUvarint(t *testing.T, s string, x uint64, n int, ok bool) {
	t.Helper()
	if !ok {
		x, n = 0, 0
	}
	if gotX, gotN, gotOk := Uvarint(s); gotX != x || gotN != n || gotOk != ok {
		t.Errorf("Uvarint(%x) = %d, %d, %v, want %d, %d, %v", s, gotX, gotN, gotOk, x, n, ok)
	}
}

// TestUvarintRoundTrip checks P1.6: an encoding is read back whatever follows it, and no proper prefix of it is an encoding.
func TestUvarintRoundTrip(t *testing.T) {
	for _, x := range numbers() {
		code := PutUvarint(x)
		for _, tail := range append(texts, "\x01", "\x7f", "\x80", code) {
			checkUvarint(t, code+tail, x, len(code), true)
		}
		for i := range len(code) {
			checkUvarint(t, code[:i], 0, 0, false)
		}
	}
}
