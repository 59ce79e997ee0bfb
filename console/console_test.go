package console

import (
	"math"
	"math/rand/v2"
	"strings"
	"testing"

	"vmfleet/api"
)

// lengths are numbers of keys: all up to twice the limit, and some whose low bits are small.
func lengths() []int {
	list := []int{100, 127, 128, 255, 256, 257, 272, 4096, 65535, 65536, 65537, 65552, 1 << 24}
	for n := range 33 {
		list = append(list, n)
	}
	return list
}

// keys returns n bytes, all values in turn from first on.
func keys(n int, first byte) string {
	b := make([]byte, n)
	for i := range b {
		b[i] = first + byte(i)
	}
	return string(b)
}

// TestExample checks P7.1 and P7.2 with the chapter's example.
func TestExample(t *testing.T) {
	c, first := Type(api.Console{}, 65)
	c, second := Type(c, 66)
	if c.Keys != "AB" || !first || !second {
		t.Fatalf("%q, %v, %v", c.Keys, first, second)
	}
	c, v := In(c, api.PortKey)
	if c.Keys != "B" || v != 65 {
		t.Errorf("%q, %d", c.Keys, v)
	}
	if c, v := In(c, api.PortKeys); c.Keys != "B" || v != 1 {
		t.Errorf("%q, %d", c.Keys, v)
	}
}

// TestType checks P7.1: every byte behind every number of keys that leaves room for it.
func TestType(t *testing.T) {
	for n := range 16 {
		for b := range 256 {
			c := api.Console{Keys: keys(n, byte(b+200))}
			got, ok := Type(c, byte(b))
			if !ok || len(got.Keys) != n+1 || got.Keys[:n] != c.Keys || got.Keys[n] != byte(b) {
				t.Errorf("byte %d behind %q: %q, %v", b, c.Keys, got.Keys, ok)
			}
		}
	}
}

// TestTypeFull checks P7.1: a queue of MaxKeys bytes or more takes no byte and stays as it is.
func TestTypeFull(t *testing.T) {
	for _, n := range lengths() {
		if n < 16 {
			continue
		}
		c := api.Console{Keys: keys(n, 0)}
		for _, b := range []byte{0, 'a', 255} {
			if got, ok := Type(c, b); got != c || ok {
				t.Errorf("byte %d behind %d keys: %d keys, %v", b, n, len(got.Keys), ok)
			}
		}
	}
}

// TestInKey checks P7.2, PortKey: every first byte, zero-extended, before every number of others.
func TestInKey(t *testing.T) {
	for _, n := range lengths() {
		rest := keys(n, 0x80)
		for b := range 256 {
			if n > 256 && b%85 != 0 {
				continue
			}
			c := api.Console{Keys: string([]byte{byte(b)}) + rest}
			if got, v := In(c, api.PortKey); got.Keys != rest || v != uint32(b) {
				t.Errorf("key %d before %d others: %#x, %d others", b, n, v, len(got.Keys))
			}
		}
	}
}

// TestInKeyText checks P7.2, PortKey: keys are bytes, also where they form runes or begin with zeros.
func TestInKeyText(t *testing.T) {
	for text, want := range map[string]uint32{"\x00": 0, "\x00\x00A": 0, "\u00e9": 0xC3, "\u20ac!": 0xE2, "\U0001F600": 0xF0, "\xA9": 0xA9, "\xFF\xFF\xFF\xFF": 0xFF} {
		if got, v := In(api.Console{Keys: text}, api.PortKey); got.Keys != text[1:] || v != want {
			t.Errorf("%q: %#x, %q", text, v, got.Keys)
		}
	}
}

// TestInKeyNone checks P7.2, PortKey: an empty queue yields 0xFFFFFFFF, however often it is read.
func TestInKeyNone(t *testing.T) {
	c := api.Console{}
	for range 3 {
		var v uint32
		if c, v = In(c, api.PortKey); c != (api.Console{}) || v != 0xFFFFFFFF {
			t.Errorf("%q, %#x", c.Keys, v)
		}
	}
}

// TestInKeys checks P7.2, PortKeys: the number of bytes, not of runes, which reading it does not change.
func TestInKeys(t *testing.T) {
	for _, n := range lengths() {
		c := api.Console{Keys: keys(n, 250)}
		if got, v := In(c, api.PortKeys); got != c || v != uint32(n) {
			t.Errorf("%d keys: %d, and %d afterwards", n, v, len(got.Keys))
		}
	}
	c := api.Console{Keys: "\u20ac\x00"}
	if got, v := In(c, api.PortKeys); got != c || v != 4 {
		t.Errorf("%d, %q", v, got.Keys)
	}
}

// TestInOther checks P7.2: any other port, of a device or of none, yields 0 and changes nothing.
func TestInOther(t *testing.T) {
	ports := []int{math.MinInt, math.MinInt + 1, math.MinInt32, -1 << 32, 1<<32 - 1, 1 << 32, 1<<32 + 1, 1 << 62, math.MaxInt32, math.MaxInt}
	for port := -300; port < 600; port++ {
		if port != 0 && port != 1 {
			ports = append(ports, port)
		}
	}
	for _, port := range ports {
		for _, n := range []int{0, 1, 2, 16, 17, 300} {
			c := api.Console{Keys: keys(n, 65)}
			if got, v := In(c, port); got != c || v != 0 {
				t.Errorf("port %d with %d keys: %#x, and %d keys afterwards", port, n, v, len(got.Keys))
			}
		}
	}
}

// TestPending checks P7.3, Pending.
func TestPending(t *testing.T) {
	for _, n := range lengths() {
		for _, first := range []byte{0, 65, 255} {
			if got := Pending(api.Console{Keys: keys(n, first)}); got != (n > 0) {
				t.Errorf("%d keys from %d on: %v", n, first, got)
			}
		}
	}
}

// TestMay checks P7.3, May, whatever the bytes are.
func TestMay(t *testing.T) {
	for _, n := range lengths() {
		for _, first := range []byte{0, 65, 255} {
			if got := May(api.Console{Keys: keys(n, first)}); got != (n <= 16) {
				t.Errorf("%d keys from %d on: %v", n, first, got)
			}
		}
	}
	// 8 runes of 3 bytes are more than 16 bytes.
	if May(api.Console{Keys: strings.Repeat("\u20ac", 8)}) {
		t.Error("runes were counted instead of bytes")
	}
}

// follow types the next byte or reads one, and checks the result against a list of the bytes that wait.
func follow(t *testing.T, c api.Console, waiting []byte, typing bool, b byte) (api.Console, []byte) {
	t.Helper()
	if !typing {
		want := uint32(0xFFFFFFFF)
		if len(waiting) > 0 {
			want, waiting = uint32(waiting[0]), waiting[1:]
		}
		var v uint32
		if c, v = In(c, api.PortKey); v != want {
			t.Fatalf("read %#x, want %#x", v, want)
		}
	} else {
		var ok bool
		if c, ok = Type(c, b); ok != (len(waiting) < 16) {
			t.Fatalf("typed behind %d keys: %v", len(waiting), ok)
		}
		if ok {
			waiting = append(waiting, b)
		}
	}
	if c.Keys != string(waiting) || !May(c) || Pending(c) != (len(waiting) > 0) {
		t.Fatalf("%q waits, want %q; May %v, Pending %v", c.Keys, waiting, May(c), Pending(c))
	}
	return c, waiting
}

// TestOrder checks P7.4: the keys are read in their order, each once, with other typing between, also beyond a full queue.
func TestOrder(t *testing.T) {
	r := rand.New(rand.NewPCG(7, 4))
	for _, percent := range []int{20, 50, 55, 80} {
		var c api.Console
		var waiting []byte
		for range 20000 {
			c, waiting = follow(t, c, waiting, r.IntN(100) < percent, byte(r.IntN(256)))
		}
	}
}

// TestEveryOrder checks P7.4: all orders of 12 times typing and reading.
func TestEveryOrder(t *testing.T) {
	for order := range 1 << 12 {
		var c api.Console
		var waiting []byte
		for i := range 12 {
			c, waiting = follow(t, c, waiting, order>>i&1 == 1, byte(245+i))
		}
	}
}

// TestKept checks P7.4 and R1: consoles that go different ways from one state do not disturb each other.
func TestKept(t *testing.T) {
	start := api.Console{Keys: "ab"}
	x, _ := Type(start, 'x')
	y, _ := Type(start, 'y')
	_, read := In(start, api.PortKey)
	again, reread := In(start, api.PortKey)
	z, _ := Type(again, 'z')
	if start.Keys != "ab" || x.Keys != "abx" || y.Keys != "aby" || again.Keys != "b" || z.Keys != "bz" || read != 'a' || reread != 'a' {
		t.Errorf("%q, %q, %q, %q, %q, %d, %d", start.Keys, x.Keys, y.Keys, again.Keys, z.Keys, read, reread)
	}
}
