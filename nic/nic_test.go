package nic

import (
	"math"
	"math/rand/v2"
	"slices"
	"strings"
	"testing"

	"vmfleet/api"
	"vmfleet/memory"
)

// text returns n bytes; the first 128 of them are all different.
func text(first byte, n int) string {
	b := make([]byte, n)
	for i := range b {
		b[i] = first + byte(i)
	}
	return string(b)
}

// fill returns n words, none of which is 0.
func fill(n int) []uint32 {
	words := make([]uint32, n)
	for i := range words {
		words[i] = uint32(i+1) * 0x9E3779B9
	}
	return words
}

// bytesOf returns the bytes of 32 words, without the help of package memory.
func bytesOf(words []uint32) string {
	b := make([]byte, 128)
	for i := range b {
		b[i] = byte(words[i/4] >> (i % 4 * 8))
	}
	return string(b)
}

// numbers are frames and lengths around their limits, and those whose low bits or signs could mislead.
var numbers = []uint32{0, 1, 2, 3, 31, 32, 33, 64, 127, 128, 129, 255, 256, 257, 256 + 128, 1 << 16, 1<<16 + 1, math.MaxInt32, 1 << 31, 1<<31 + 1, math.MaxUint32 - 1, math.MaxUint32}

// counts are numbers of pages, also those that no memory has.
var counts = []int{math.MinInt, -1 << 32, 1 - 1<<32, -1, 0, 1, 2, 3, 31, 32, 33, 1 << 31, 1<<32 - 1, 1 << 32, 1<<32 + 1, math.MaxInt}

// ports are all ports and numbers that are no ports.
func ports() []int {
	list := []int{math.MinInt, math.MinInt + 9, -1 << 32, -9, -8, -7, -1, 256 + 7, 256 + 9, 1<<16 + 9, 1<<32 + 7, 1<<32 + 8, 1<<32 + 9, math.MaxInt}
	for port := range 20 {
		list = append(list, port)
	}
	return list
}

// frames are network frames of all lengths and strings that are too long or empty.
func frames() []string {
	list := []string{text(9, 255), text(10, 256), text(11, 257), text(12, 1<<16+1), strings.Repeat("\x00", 128), "\x00", "\xff\x80"}
	for length := range 132 {
		list = append(list, text(byte(length), length))
	}
	return list
}

// cards are network cards with all flags, also those that no machine has.
func cards() []api.Nic {
	var list []api.Nic
	for i, x := range numbers {
		for flags := range 4 {
			is, got := flags&1 != 0, flags&2 != 0
			y, z := numbers[(i+3)%len(numbers)], numbers[(i+7)%len(numbers)]
			list = append(list,
				api.Nic{Frame: x, Len: y, Posted: is, Received: got},
				api.Nic{Frame: 1, Len: x, Posted: is, Received: got, Got: y},
				api.Nic{Frame: x, Len: 1, Posted: is, Buffer: y, Received: got},
				api.Nic{Frame: y, Len: z, Posted: is, Buffer: 1, Received: got, Got: x},
				api.Nic{Frame: 1, Len: 2, Posted: is, Buffer: x, Received: got, Got: z})
		}
	}
	return list
}

// memories are memories and lists that are none.
func memories() [][]uint32 {
	return [][]uint32{fill(64), fill(32), fill(32 * 32), memory.New(3), nil, {}, fill(1), fill(63), fill(65), fill(33 * 32)}
}

// pagesOf returns the number of pages of m, without the help of package memory.
func pagesOf(m []uint32) int64 {
	if n := len(m); n%32 == 0 && n <= 1024 {
		return int64(n / 32)
	}
	return 0
}

// spoil overwrites words, so that whoever shares them notices.
func spoil(words []uint32) {
	for i := range words {
		words[i] = ^words[i]
	}
}

// TestExample checks P10.1 to P10.3 with the chapter's example.
func TestExample(t *testing.T) {
	n, _ := Out(api.Nic{Frame: 1}, memory.New(2), api.PortNic, api.NicPost, 1)
	n, m, ok := Receive(n, memory.New(2), "abc")
	if !ok || m[32] != 0x00636261 || In(n, api.PortNicLen) != 3 {
		t.Errorf("%+v, %#x, %v", n, m, ok)
	}
}

// TestIn checks P10.1: every port of every card.
func TestIn(t *testing.T) {
	for _, n := range cards() {
		status := uint32(0)
		if n.Posted {
			status++
		}
		if n.Received {
			status += 2
		}
		for _, port := range ports() {
			want := map[int]uint32{7: n.Frame, 8: n.Got, 9: status}[port]
			if got := In(n, port); got != want {
				t.Errorf("port %d of %+v: %d, want %d", port, n, got, want)
			}
		}
	}
}

// TestInValues checks P10.1 with literal values: neither Len nor Buffer can be read.
func TestInValues(t *testing.T) {
	n := api.Nic{Frame: 0xFFFFFFFE, Len: 5, Buffer: 6, Got: 0x80000001}
	if a, b, c := In(n, 7), In(n, 8), In(n, 9); a != 0xFFFFFFFE || b != 0x80000001 || c != 0 {
		t.Errorf("%#x, %#x, %d", a, b, c)
	}
	a, b, c := api.Nic{Posted: true}, api.Nic{Received: true}, api.Nic{Posted: true, Received: true}
	if In(a, 9) != 1 || In(b, 9) != 2 || In(c, 9) != 3 {
		t.Errorf("%d, %d, %d", In(a, 9), In(b, 9), In(c, 9))
	}
}

// TestRegisters checks P10.2, PortNicFrame and PortNicLen: they take any value in any state, and change nothing else.
func TestRegisters(t *testing.T) {
	for _, n := range cards() {
		for _, v := range numbers {
			frame, length := n, n
			frame.Frame, length.Len = v, v
			if got, outputs := Out(n, fill(64), 7, v, 5); got != frame || len(outputs) != 0 {
				t.Errorf("frame %d of %+v: %+v, %+v", v, n, got, outputs)
			}
			if got, outputs := Out(n, nil, 8, v, 5); got != length || len(outputs) != 0 {
				t.Errorf("length %d of %+v: %+v, %+v", v, n, got, outputs)
			}
		}
	}
}

// TestOtherPorts checks P10.2: no other port changes anything.
func TestOtherPorts(t *testing.T) {
	for _, n := range cards() {
		for _, port := range ports() {
			for _, v := range []uint32{0, 1, 2, 3, 0xFFFFFFFF} {
				if port >= 7 && port <= 9 {
					continue
				}
				if got, outputs := Out(n, fill(64), port, v, 5); got != n || len(outputs) != 0 {
					t.Errorf("%d to port %d of %+v: %+v, %+v", v, port, n, got, outputs)
				}
			}
		}
	}
}

// TestOtherValues checks P10.2: PortNic ignores all values but 0, NicSend and NicPost.
func TestOtherValues(t *testing.T) {
	for _, n := range cards() {
		for _, v := range []uint32{3, 4, 5, 255, 256, 257, 258, 1 << 16, 1<<16 + 1, 1 << 31, 1<<31 + 1, 1<<31 + 2, 0xFFFFFFFE, 0xFFFFFFFF} {
			if got, outputs := Out(n, fill(64), 9, v, 5); got != n || len(outputs) != 0 {
				t.Errorf("%d to %+v: %+v, %+v", v, n, got, outputs)
			}
		}
	}
}

// TestSendValues checks P10.2, NicSend, with literal values: the first bytes of the page that the register denotes, and no change of the card.
func TestSendValues(t *testing.T) {
	m := memory.New(2)
	m[32], m[33], m[63] = 0x64636261, 0x80FF00, 0x42000000
	whole := "abcd\x00\xff\x80\x00" + strings.Repeat("\x00", 119) + "B"
	for _, c := range []struct {
		n    api.Nic
		at   uint64
		want string
	}{
		{api.Nic{Frame: 1, Len: 1}, 0, "a"},
		{api.Nic{Frame: 1, Len: 6}, 1<<60 + 1, "abcd\x00\xff"},
		{api.Nic{Frame: 1, Len: 127}, math.MaxUint64, whole[:127]},
		{api.Nic{Frame: 1, Len: 128}, 77, whole},
		{api.Nic{Frame: 1, Len: 2, Posted: true}, 78, "ab"},
		{api.Nic{Frame: 1, Len: 3, Received: true, Got: 5}, 79, "abc"},
		{api.Nic{Frame: 0, Len: 2, Posted: true, Buffer: 1}, 80, "\x00\x00"},
	} {
		got, outputs := Out(c.n, m, api.PortNic, 1, c.at)
		if got != c.n || !slices.Equal(outputs, []api.Output{{Kind: 2, At: c.at, Data: c.want}}) {
			t.Errorf("%+v: %+v, %+v", c.n, got, outputs)
		}
	}
	for _, n := range []api.Nic{{Frame: 1}, {Frame: 1, Len: 129}, {Frame: 1, Len: 257}, {Frame: 1, Len: 1 << 31}, {Frame: 1, Len: 0xFFFFFFFF}, {Frame: 2, Len: 1}, {Frame: 0xFFFFFFFF, Len: 1}} {
		if got, outputs := Out(n, m, api.PortNic, 1, 5); got != n || len(outputs) != 0 {
			t.Errorf("%+v: %+v, %+v", n, got, outputs)
		}
	}
}

// checkCommand expects what P10.2 says about NicSend, NicPost and 0.
func checkCommand(t *testing.T, n api.Nic, m []uint32, v uint32, at uint64) {
	t.Helper()
	kept, want, outputs := slices.Clone(m), n, []api.Output(nil)
	isPage := int64(n.Frame) < pagesOf(m)
	switch {
	case v == 1 && n.Len >= 1 && n.Len <= 128 && isPage:
		outputs = []api.Output{{Kind: 2, At: at, Data: bytesOf(m[32*n.Frame:])[:n.Len]}}
	case v == 2 && isPage && !n.Posted && !n.Received:
		want.Posted, want.Buffer = true, n.Frame
	case v == 0:
		want = api.Nic{Frame: n.Frame, Len: n.Len, Posted: n.Posted, Buffer: n.Buffer}
	}
	got, list := Out(n, m, 9, v, at)
	if got != want || !slices.Equal(list, outputs) || !slices.Equal(m, kept) {
		t.Errorf("%d to %+v, %d words: %+v, %+v, want %+v, %+v", v, n, len(m), got, list, want, outputs)
	}
}

// TestCommands checks P10.2: every command to every card with every memory.
func TestCommands(t *testing.T) {
	for _, m := range memories() {
		for i, n := range cards() {
			for v := range uint32(3) {
				checkCommand(t, n, m, v, uint64(i)<<56)
			}
		}
	}
}

// TestSend checks P10.2, NicSend: all lengths and all frames of memories of all kinds.
func TestSend(t *testing.T) {
	for _, m := range memories() {
		last := uint32(pagesOf(m)) - 1
		for _, frame := range append(numbers, last-1, last, last+1) {
			for length := range uint32(260) {
				checkCommand(t, api.Nic{Frame: frame, Len: length}, m, 1, 5)
			}
			for _, length := range numbers {
				checkCommand(t, api.Nic{Frame: frame, Len: length, Posted: true, Buffer: 1}, m, 1, 6)
			}
		}
	}
}

// TestPost checks P10.2, NicPost: all frames of memories of all kinds, for cards with and without a buffer or a received frame.
func TestPost(t *testing.T) {
	for _, m := range memories() {
		last := uint32(pagesOf(m)) - 1
		for _, frame := range append(numbers, last-1, last, last+1) {
			for flags := range 4 {
				n := api.Nic{Frame: frame, Len: 3, Posted: flags&1 != 0, Received: flags&2 != 0}
				checkCommand(t, n, m, 2, 5)
				n.Buffer, n.Got = 9, 8
				checkCommand(t, n, m, 2, 5)
			}
		}
	}
}

// TestPostValues checks P10.2, NicPost, with literal values.
func TestPostValues(t *testing.T) {
	for i, c := range []struct{ n, want api.Nic }{
		{api.Nic{Frame: 2, Len: 7}, api.Nic{Frame: 2, Len: 7, Posted: true, Buffer: 2}},
		{api.Nic{}, api.Nic{Posted: true}},
		{api.Nic{Frame: 3}, api.Nic{Frame: 3}},
		{api.Nic{Frame: math.MaxUint32}, api.Nic{Frame: math.MaxUint32}},
		{api.Nic{Frame: 2, Posted: true, Buffer: 1}, api.Nic{Frame: 2, Posted: true, Buffer: 1}},
		{api.Nic{Frame: 2, Received: true, Got: 4}, api.Nic{Frame: 2, Received: true, Got: 4}},
	} {
		if got, outputs := Out(c.n, memory.New(3), api.PortNic, 2, 5); got != c.want || len(outputs) != 0 {
			t.Errorf("%d: %+v, %+v", i, got, outputs)
		}
	}
}

// TestAcknowledge checks P10.2, 0: it drops the received frame, and leaves a posted buffer and the registers alone.
func TestAcknowledge(t *testing.T) {
	for i, c := range []struct{ n, want api.Nic }{
		{api.Nic{Frame: 1, Len: 2, Received: true, Got: 3}, api.Nic{Frame: 1, Len: 2}},
		{api.Nic{Frame: 1, Len: 2, Posted: true, Buffer: 3}, api.Nic{Frame: 1, Len: 2, Posted: true, Buffer: 3}},
		{api.Nic{Frame: 1, Len: 2, Posted: true, Buffer: 3, Received: true, Got: 4}, api.Nic{Frame: 1, Len: 2, Posted: true, Buffer: 3}},
		{api.Nic{Buffer: 5, Got: 4}, api.Nic{Buffer: 5}},
		{api.Nic{}, api.Nic{}},
	} {
		for _, m := range memories() {
			if got, outputs := Out(c.n, m, api.PortNic, 0, 5); got != c.want || len(outputs) != 0 {
				t.Errorf("%d, %d words: %+v, %+v", i, len(m), got, outputs)
			}
		}
	}
}

// TestOutputIsNew checks R3: the list of outputs of one call is its own.
func TestOutputIsNew(t *testing.T) {
	n := api.Nic{Len: 1}
	_, a := Out(n, memory.New(1), 9, 1, 5)
	_, b := Out(n, memory.New(1), 9, 1, 5)
	a[0] = api.Output{}
	if b[0] != (api.Output{Kind: 2, At: 5, Data: "\x00"}) {
		t.Errorf("%+v", b)
	}
}

// TestReceiveValues checks P10.3 with literal values: a short frame, one of a whole page, and each reason to refuse one.
func TestReceiveValues(t *testing.T) {
	m := fill(96)
	n := api.Nic{Frame: 2, Len: 7, Posted: true, Buffer: 1}
	short, whole := slices.Clone(m), slices.Clone(m)
	short[32], short[33] = 0x64636261, m[33]&^0xFF|'e'
	for i := range 32 {
		whole[32+i] = uint32(4*i) + 50 + uint32(4*i+51)<<8 + uint32(4*i+52)<<16 + uint32(4*i+53)<<24
	}
	unposted, far := n, n
	unposted.Posted, far.Buffer = false, 3
	for i, c := range []struct {
		n     api.Nic
		frame string
		want  api.Nic
		after []uint32
		ok    bool
	}{
		{n, "abcde", api.Nic{Frame: 2, Len: 7, Received: true, Got: 5}, short, true},
		{n, text(50, 128), api.Nic{Frame: 2, Len: 7, Received: true, Got: 128}, whole, true},
		{n, "", n, m, false},
		{n, text(50, 129), n, m, false},
		{unposted, "abcde", unposted, m, false},
		{far, "abcde", far, m, false},
	} {
		if got, after, ok := Receive(c.n, m, c.frame); got != c.want || !slices.Equal(after, c.after) || ok != c.ok {
			t.Errorf("%d: %+v, %v", i, got, ok)
		}
	}
}

// checkReceive expects what P10.3 says, from a memory that is not changed or shared.
func checkReceive(t *testing.T, n api.Nic, m []uint32, frame string) {
	t.Helper()
	kept, changed, want := slices.Clone(m), slices.Clone(m), n
	ok := n.Posted && len(frame) >= 1 && len(frame) <= 128 && int64(n.Buffer) < pagesOf(m)
	if ok {
		want = api.Nic{Frame: n.Frame, Len: n.Len, Received: true, Got: uint32(len(frame))}
		for i := range len(frame) {
			index, low := 32*n.Buffer+uint32(i/4), i%4*8
			changed[index] = changed[index]&^(0xFF<<low) | uint32(frame[i])<<low
		}
	}
	got, after, is := Receive(n, m, frame)
	if got != want || is != ok || !slices.Equal(after, changed) {
		t.Fatalf("%+v, %d words, a frame of %d bytes: %+v, %v, want %+v, %v; the memory is right: %v", n, len(m), len(frame), got, is, want, ok, slices.Equal(after, changed))
	}
	spoil(after)
	if !slices.Equal(m, kept) {
		t.Fatalf("%+v, a frame of %d bytes: the memory was changed", n, len(frame))
	}
}

// TestReceive checks P10.3: every card with frames of all lengths.
func TestReceive(t *testing.T) {
	for _, n := range cards() {
		for _, frame := range frames() {
			checkReceive(t, n, fill(64), frame)
		}
	}
}

// TestReceivePages checks P10.3: all buffers in memories of all kinds.
func TestReceivePages(t *testing.T) {
	for _, m := range memories() {
		last := uint32(pagesOf(m)) - 1
		for _, buffer := range append(numbers, last-1, last, last+1) {
			for _, frame := range []string{"", "x", text(7, 127), text(8, 128), text(9, 129)} {
				checkReceive(t, api.Nic{Frame: 40, Posted: true, Buffer: buffer}, m, frame)
				checkReceive(t, api.Nic{Buffer: buffer}, m, frame)
				checkReceive(t, api.Nic{Posted: true, Buffer: buffer, Received: true, Got: 9}, m, frame)
			}
		}
	}
}

// TestPending checks P10.4, Pending: only Received counts.
func TestPending(t *testing.T) {
	for _, n := range cards() {
		if got := Pending(n); got != n.Received {
			t.Errorf("%+v: %v", n, got)
		}
	}
	if Pending(api.Nic{}) || Pending(api.Nic{Posted: true, Got: 1}) || !Pending(api.Nic{Received: true}) {
		t.Error("a literal card is wrong")
	}
}

// TestMayValues checks P10.4, May: valid cards, and each condition broken alone.
func TestMayValues(t *testing.T) {
	for i, n := range []api.Nic{{}, {Frame: 99, Len: 999}, {Posted: true}, {Posted: true, Buffer: 31}, {Received: true, Got: 1}, {Received: true, Got: 128}, {Frame: math.MaxUint32, Len: math.MaxUint32, Posted: true, Buffer: 1}} {
		if !May(n, 32) {
			t.Errorf("%d: %+v is rejected", i, n)
		}
	}
	for i, n := range []api.Nic{
		{Posted: true, Received: true, Got: 1}, {Posted: true, Buffer: 1, Received: true, Got: 1}, {Posted: true, Received: true},
		{Posted: true, Buffer: 32}, {Posted: true, Buffer: 1 << 31}, {Posted: true, Buffer: math.MaxUint32}, {Buffer: 1}, {Buffer: math.MaxUint32},
		{Received: true, Buffer: 1, Got: 1}, {Posted: true, Got: 1},
		{Received: true}, {Received: true, Got: 129}, {Received: true, Got: 257}, {Received: true, Got: 1 << 31}, {Received: true, Got: math.MaxUint32}, {Got: 1}, {Got: math.MaxUint32},
	} {
		if May(n, 32) {
			t.Errorf("%d: %+v is accepted", i, n)
		}
	}
}

// may is P10.4 written down as one list of reasons.
func may(n api.Nic, pages int) bool {
	switch {
	case n.Posted && n.Received:
		return false
	case n.Posted:
		return pages > 0 && uint64(n.Buffer) < uint64(pages) && n.Got == 0
	case n.Received:
		return n.Buffer == 0 && n.Got != 0 && n.Got < 129
	}
	return n.Buffer|n.Got == 0
}

// TestMay checks P10.4, May: every card, and every buffer, with numbers of pages of all kinds.
func TestMay(t *testing.T) {
	for _, pages := range counts {
		for _, n := range cards() {
			if got := May(n, pages); got != may(n, pages) {
				t.Errorf("%+v, %d pages: %v", n, pages, got)
			}
		}
		for _, x := range append(numbers, uint32(pages)-1, uint32(pages)) {
			for _, n := range []api.Nic{{Posted: true, Buffer: x}, {Buffer: x}, {Received: true, Got: x}, {Got: x}} {
				if got := May(n, pages); got != may(n, pages) {
					t.Errorf("%+v, %d pages: %v", n, pages, got)
				}
			}
		}
	}
}

// TestStays checks P10.5: whatever is written to the ports except an acknowledgement, the received frame stays in memory and no second one is delivered.
func TestStays(t *testing.T) {
	r := rand.New(rand.NewPCG(10, 5))
	all := ports()
	for _, size := range []int{1, 3, 128} {
		n, m, ok := Receive(api.Nic{Frame: 1, Posted: true, Buffer: 1}, fill(64), text(3, size))
		want := slices.Clone(m)
		for range 5000 {
			port, v := all[r.IntN(len(all))], numbers[r.IntN(len(numbers))]
			if port == 9 && v == 0 {
				continue
			}
			n, _ = Out(n, m, port, v, r.Uint64())
			var second bool
			n, m, second = Receive(n, m, "second")
			if !ok || second || !slices.Equal(m, want) || In(n, 8) != uint32(size) || In(n, 9) != 2 || !Pending(n) || !May(n, 2) {
				t.Fatalf("%d bytes: %+v, %v", size, n, second)
			}
		}
		n, _ = Out(n, m, 9, 0, 5)
		n, _ = Out(n, m, 7, 1, 6)
		n, _ = Out(n, m, 9, 2, 7)
		if _, m, ok = Receive(n, m, "second"); !ok || bytesOf(m[32:])[:6] != "second" {
			t.Errorf("%d bytes: no frame after the acknowledgement", size)
		}
	}
}

// guest is a card with its memory, and what the guest expects of them.
type guest struct {
	n     api.Nic
	m     []uint32
	model []string
	// buffer is the page that is posted, or -1; got is the frame that was received, or empty.
	buffer int
	got    string
}

// write writes a port and follows it on the model.
func (g *guest) write(t *testing.T, port int, v uint32) {
	t.Helper()
	frame, length := int(g.n.Frame), int(g.n.Len)
	var outputs []api.Output
	g.n, outputs = Out(g.n, g.m, port, v, 6)
	var want []api.Output
	switch {
	case port == 9 && v == 0:
		g.got = ""
	case port == 9 && v == 1 && frame < 2 && length > 0 && length < 129:
		want = []api.Output{{Kind: 2, At: 6, Data: g.model[frame][:length]}}
	case port == 9 && v == 2 && frame < 2 && g.buffer < 0 && g.got == "":
		g.buffer = frame
	}
	if !slices.Equal(outputs, want) {
		t.Fatalf("%d to port %d: %+v, want %+v", v, port, outputs, want)
	}
}

// receive delivers a frame and follows it on the model.
func (g *guest) receive(t *testing.T, frame string) bool {
	t.Helper()
	var ok bool
	g.n, g.m, ok = Receive(g.n, g.m, frame)
	want := g.buffer >= 0 && frame != "" && len(frame) < 129
	if want {
		g.model[g.buffer] = frame + g.model[g.buffer][len(frame):]
		g.buffer, g.got = -1, frame
	}
	if ok != want {
		t.Fatalf("%+v, a frame of %d bytes: %v", g.n, len(frame), ok)
	}
	return ok
}

// check compares the memory and the ports with the model.
func (g *guest) check(t *testing.T) {
	t.Helper()
	status := uint32(0)
	if g.buffer >= 0 {
		status = 1
	}
	if g.got != "" {
		status = 2
	}
	if !May(g.n, 2) || Pending(g.n) != (g.got != "") || In(g.n, 8) != uint32(len(g.got)) || In(g.n, 9) != status {
		t.Fatalf("%+v: %d posted, %q received", g.n, g.buffer, g.got)
	}
	if !slices.Equal([]string{bytesOf(g.m), bytesOf(g.m[32:])}, g.model) {
		t.Fatalf("%+v: the memory is wrong", g.n)
	}
}

// TestLife checks P10.1 to P10.5: a guest that writes to the ports at random sends what is in its memory, and finds there what it received.
func TestLife(t *testing.T) {
	r := rand.New(rand.NewPCG(10, 1))
	g := guest{m: fill(64), buffer: -1}
	g.model = []string{bytesOf(g.m), bytesOf(g.m[32:])}
	values := map[int][]uint32{7: {0, 1, 1, 2}, 8: {0, 1, 5, 127, 128, 129}, 9: {0, 1, 2, 2, 3}}
	taken := 0
	for range 20000 {
		if at := r.IntN(64); r.IntN(4) == 0 {
			g.m[at] = r.Uint32()
			g.model[at/32] = bytesOf(g.m[at/32*32:])
		}
		port := 7 + r.IntN(3)
		g.write(t, port, values[port][r.IntN(len(values[port]))])
		g.check(t)
		if r.IntN(3) == 0 && g.receive(t, text(byte(r.IntN(256)), r.IntN(131))) {
			taken++
		}
		g.check(t)
	}
	if taken < 100 {
		t.Errorf("only %d frames were received", taken)
	}
}
