package disk

import (
	"math"
	"math/rand/v2"
	"slices"
	"strings"
	"testing"

	"vmfleet/api"
	"vmfleet/memory"
)

// page returns the 128 bytes of a page, all different.
func page(first byte) string {
	b := make([]byte, 128)
	for i := range b {
		b[i] = first + byte(i)
	}
	return string(b)
}

// fill returns n words, none of which is 0.
func fill(n int) []uint32 {
	words := make([]uint32, n)
	for i := range words {
		words[i] = uint32(i+1) * 0x9E3779B9
	}
	return words
}

// bytesOf returns the bytes of 32 words, without the help of package memory.
func bytesOf(words []uint32) string {
	b := make([]byte, 128)
	for i := range b {
		b[i] = byte(words[i/4] >> (i % 4 * 8))
	}
	return string(b)
}

// numbers are blocks and frames around their limits, and those whose low bits or signs could mislead.
var numbers = []uint32{0, 1, 2, 3, 31, 32, 33, 63, 64, 65, 255, 256, 257, 1 << 16, 1<<16 + 1, math.MaxInt32, 1 << 31, 1<<31 + 1, math.MaxUint32 - 1, math.MaxUint32}

// ports are all ports and numbers that are no ports.
func ports() []int {
	list := []int{math.MinInt, math.MinInt + 6, -1 << 32, -6, -5, -4, -1, 256 + 4, 256 + 6, 1<<16 + 6, 1<<32 + 4, 1<<32 + 5, 1<<32 + 6, math.MaxInt}
	for port := range 20 {
		list = append(list, port)
	}
	return list
}

// data are contents of a command or an event: two pages, and strings of other lengths.
func data() []string {
	return []string{"", "x", "\x00", page(1)[:127], page(2), strings.Repeat("\x00", 128), page(3) + "x", page(4) + page(5)}
}

// states are the states of a controller and numbers that are none.
var states = []int{0, 1, 2, 3, -1, 4, 5, 257, 1<<32 + 1, -1 << 32, math.MinInt, math.MaxInt}

// commands are the commands of a controller and numbers that are none.
var commands = []int{0, 1, 2, 3, -1, -2, 257, 1<<32 + 1, 1<<32 + 2, math.MinInt, math.MaxInt}

// disks are controllers in all states with all commands, also those that no machine has.
func disks() []api.Disk {
	var list []api.Disk
	for _, state := range states {
		for _, cmd := range commands {
			for i, content := range data() {
				d := api.Disk{Blocks: 3, Block: 2, Frame: 1, State: state, Cmd: cmd, OpBlock: 1, OpFrame: 1, OpData: content}
				list = append(list, d)
				d.Blocks, d.Block, d.Frame, d.OpBlock, d.OpFrame = numbers[(i+3)%20], numbers[(i+state&15)%20], numbers[(i+cmd&15)%20], numbers[i%20], numbers[(i+1)%20]
				list = append(list, d)
				list = append(list, api.Disk{Blocks: 64, State: state, Cmd: cmd, OpData: content})
			}
		}
	}
	return list
}

// memories are memories and lists that are none.
func memories() [][]uint32 {
	return [][]uint32{fill(64), fill(32), fill(32 * 32), memory.New(3), nil, {}, fill(1), fill(63), fill(65), fill(33 * 32)}
}

// spoil overwrites words, so that whoever shares them notices.
func spoil(words []uint32) {
	for i := range words {
		words[i] = ^words[i]
	}
}

// TestExample checks P9.2 with the chapter's example, and the last block that exists.
func TestExample(t *testing.T) {
	m := memory.New(2)
	d, outputs := Out(api.Disk{Blocks: 64, Block: 64}, m, api.PortDisk, api.DiskWrite, 1)
	if d != (api.Disk{Blocks: 64, Block: 64, State: api.DiskError}) || len(outputs) != 0 {
		t.Errorf("%+v, %+v", d, outputs)
	}
	d, outputs = Out(api.Disk{Blocks: 64, Block: 63}, m, api.PortDisk, api.DiskWrite, 1)
	if d.State != api.DiskBusy || d.OpBlock != 63 || len(outputs) != 1 {
		t.Errorf("%+v, %+v", d, outputs)
	}
}

// TestIn checks P9.1: every port of every controller.
func TestIn(t *testing.T) {
	for _, d := range disks() {
		for _, port := range ports() {
			want := map[int]uint32{4: d.Block, 5: d.Frame, 6: uint32(d.State)}[port]
			if got := In(d, port); got != want {
				t.Errorf("port %d of %+v: %d, want %d", port, d, got, want)
			}
		}
	}
}

// TestInValues checks P9.1 with literal values.
func TestInValues(t *testing.T) {
	d := api.Disk{Blocks: 9, Block: 0xFFFFFFFE, Frame: 0x80000001, State: api.DiskError, Cmd: 7, OpBlock: 8, OpFrame: 10}
	if a, b, c := In(d, 4), In(d, 5), In(d, 6); a != 0xFFFFFFFE || b != 0x80000001 || c != 3 {
		t.Errorf("%#x, %#x, %d", a, b, c)
	}
	for state := range 4 {
		if got := In(api.Disk{State: state}, 6); got != uint32(state) {
			t.Errorf("state %d: %d", state, got)
		}
	}
}

// TestRegisters checks P9.2, PortDiskBlock and PortDiskFrame: they take any value in any state, and change nothing else.
func TestRegisters(t *testing.T) {
	for _, d := range disks() {
		for _, v := range numbers {
			block, frame := d, d
			block.Block, frame.Frame = v, v
			if got, outputs := Out(d, fill(64), 4, v, 5); got != block || len(outputs) != 0 {
				t.Errorf("block %d of %+v: %+v, %+v", v, d, got, outputs)
			}
			if got, outputs := Out(d, nil, 5, v, 5); got != frame || len(outputs) != 0 {
				t.Errorf("frame %d of %+v: %+v, %+v", v, d, got, outputs)
			}
		}
	}
}

// TestOtherPorts checks P9.2: no other port changes anything.
func TestOtherPorts(t *testing.T) {
	for _, d := range disks() {
		for _, port := range ports() {
			for _, v := range []uint32{0, 1, 2, 3, 0xFFFFFFFF} {
				if port >= 4 && port <= 6 {
					continue
				}
				if got, outputs := Out(d, fill(64), port, v, 5); got != d || len(outputs) != 0 {
					t.Errorf("%d to port %d of %+v: %+v, %+v", v, port, d, got, outputs)
				}
			}
		}
	}
}

// TestOtherValues checks P9.2: PortDisk ignores all values but 0, DiskRead and DiskWrite.
func TestOtherValues(t *testing.T) {
	for _, d := range disks() {
		for _, v := range []uint32{3, 4, 5, 255, 256, 257, 258, 1 << 16, 1<<16 + 1, 1 << 31, 1<<31 + 1, 1<<31 + 2, 0xFFFFFFFE, 0xFFFFFFFF} {
			if got, outputs := Out(d, fill(64), 6, v, 5); got != d || len(outputs) != 0 {
				t.Errorf("%d to %+v: %+v, %+v", v, d, got, outputs)
			}
		}
	}
}

// TestNotIdle checks P9.2: a command is ignored in all states but DiskIdle, also if it would fail.
func TestNotIdle(t *testing.T) {
	for _, d := range disks() {
		for _, v := range []uint32{api.DiskRead, api.DiskWrite} {
			for _, m := range memories() {
				if got, outputs := Out(d, m, 6, v, 5); d.State != 0 && (got != d || len(outputs) != 0) {
					t.Errorf("command %d to %+v, %d words: %+v, %+v", v, d, len(m), got, outputs)
				}
			}
		}
	}
}

// TestAcknowledge checks P9.2: 0 makes DiskDone and DiskError DiskIdle, and changes nothing else.
func TestAcknowledge(t *testing.T) {
	for _, d := range disks() {
		want := d
		if d.State == 2 || d.State == 3 {
			want.State = 0
		}
		for _, m := range memories() {
			if got, outputs := Out(d, m, 6, 0, 5); got != want || len(outputs) != 0 {
				t.Errorf("%+v, %d words: %+v, %+v", d, len(m), got, outputs)
			}
		}
	}
}

// TestRead checks P9.2 and P9.3: what an idle controller becomes, and its output, with literal values.
func TestRead(t *testing.T) {
	m := fill(64)
	d, outputs := Out(api.Disk{Blocks: 9, Block: 8, Frame: 1}, m, api.PortDisk, 1, 77)
	if d != (api.Disk{Blocks: 9, Block: 8, Frame: 1, State: 1, Cmd: 1, OpBlock: 8, OpFrame: 1}) {
		t.Errorf("%+v", d)
	}
	if !slices.Equal(outputs, []api.Output{{Kind: 3, At: 77, Block: 8}}) {
		t.Errorf("%+v", outputs)
	}
}

// TestWrite checks P9.2 and P9.3: what an idle controller becomes, and its output, with literal values.
func TestWrite(t *testing.T) {
	m := memory.New(2)
	m[32], m[63] = 0x64636261, 0xFF008000
	content := "abcd" + strings.Repeat("\x00", 121) + "\x80\x00\xff"
	d, outputs := Out(api.Disk{Blocks: 9, Block: 8, Frame: 1}, m, api.PortDisk, 2, 1<<60+1)
	if d != (api.Disk{Blocks: 9, Block: 8, Frame: 1, State: 1, Cmd: 2, OpBlock: 8, OpFrame: 1, OpData: content}) {
		t.Errorf("%+v", d)
	}
	if !slices.Equal(outputs, []api.Output{{Kind: 4, At: 1<<60 + 1, Block: 8, Data: content}}) {
		t.Errorf("%+v", outputs)
	}
}

// checkIssue expects what P9.2 says about a command of an idle controller.
func checkIssue(t *testing.T, d api.Disk, m []uint32, pages int, cmd uint32, at uint64) {
	t.Helper()
	kept := slices.Clone(m)
	want, outputs := d, []api.Output(nil)
	if d.Block < d.Blocks && int64(d.Frame) < int64(pages) {
		want = api.Disk{Blocks: d.Blocks, Block: d.Block, Frame: d.Frame, State: 1, Cmd: int(cmd), OpBlock: d.Block, OpFrame: d.Frame}
		outputs = []api.Output{{Kind: int(cmd) + 2, At: at, Block: d.Block}}
		if cmd == 2 {
			want.OpData = bytesOf(m[32*d.Frame:])
			outputs[0].Data = want.OpData
		}
	} else {
		want.State = 3
	}
	got, list := Out(d, m, 6, cmd, at)
	if got != want || !slices.Equal(list, outputs) || !slices.Equal(m, kept) {
		t.Errorf("command %d to %+v, %d pages: %+v, %+v, want %+v, %+v", cmd, d, pages, got, list, want, outputs)
	}
}

// TestIssue checks P9.2: commands with all registers, sizes of disks and memories, and lists that are no memories.
func TestIssue(t *testing.T) {
	for _, m := range memories() {
		pages := 0
		if n := len(m); n%32 == 0 && n <= 1024 {
			pages = n / 32
		}
		for _, blocks := range numbers {
			for _, block := range append(numbers, blocks-1) {
				for _, frame := range append(numbers, uint32(pages)-1, uint32(pages)) {
					d := api.Disk{Blocks: blocks, Block: block, Frame: frame}
					checkIssue(t, d, m, pages, 1, uint64(block)<<28)
					checkIssue(t, d, m, pages, 2, math.MaxUint64-uint64(frame))
				}
			}
		}
	}
}

// TestIssueAgain checks P9.2: nothing remains of a command that an idle controller should not have; one that fails at once changes only the state.
func TestIssueAgain(t *testing.T) {
	for _, d := range disks() {
		d.State = 0
		checkIssue(t, d, fill(64), 2, 1, 6)
		checkIssue(t, d, fill(64), 2, 2, 7)
	}
}

// TestOutputIsNew checks R3: the list of outputs of one call is its own.
func TestOutputIsNew(t *testing.T) {
	d := api.Disk{Blocks: 1}
	_, a := Out(d, fill(32), 6, 1, 5)
	_, b := Out(d, fill(32), 6, 1, 5)
	a[0] = api.Output{}
	if b[0] != (api.Output{Kind: 3, At: 5}) {
		t.Errorf("%+v", b)
	}
}

// TestRequest checks P9.3 for all states and commands; a read has no data.
func TestRequest(t *testing.T) {
	for _, d := range disks() {
		for _, at := range []uint64{0, 1, 1 << 32, 1 << 60, math.MaxUint64} {
			var want api.Output
			ok := d.State == 1 && (d.Cmd == 1 || d.Cmd == 2)
			if ok && d.Cmd == 1 {
				want = api.Output{Kind: 3, At: at, Block: d.OpBlock}
			}
			if ok && d.Cmd == 2 {
				want = api.Output{Kind: 4, At: at, Block: d.OpBlock, Data: d.OpData}
			}
			if got, is := Request(d, at); got != want || is != ok {
				t.Errorf("%+v at %d: %+v, %v", d, at, got, is)
			}
		}
	}
}

// TestRequestValues checks P9.3 with literal values: the registers for the next command do not count.
func TestRequestValues(t *testing.T) {
	d := api.Disk{Blocks: 9, Block: 5, Frame: 6, State: 1, Cmd: 2, OpBlock: 7, OpFrame: 8, OpData: "abc"}
	if got, ok := Request(d, 12); got != (api.Output{Kind: 4, At: 12, Block: 7, Data: "abc"}) || !ok {
		t.Errorf("%+v, %v", got, ok)
	}
	d.Cmd = 1
	if got, ok := Request(d, 13); got != (api.Output{Kind: 3, At: 13, Block: 7}) || !ok {
		t.Errorf("%+v, %v", got, ok)
	}
}

// TestCompleteValues checks P9.4 with literal values: both commands, with and without success.
func TestCompleteValues(t *testing.T) {
	m := fill(96)
	read := api.Disk{Blocks: 9, Block: 5, Frame: 2, State: 1, Cmd: 1, OpBlock: 7, OpFrame: 1}
	write := api.Disk{Blocks: 9, Block: 5, Frame: 2, State: 1, Cmd: 2, OpBlock: 7, OpFrame: 1, OpData: page(9)}
	done, failed := api.Disk{Blocks: 9, Block: 5, Frame: 2, State: 2}, api.Disk{Blocks: 9, Block: 5, Frame: 2, State: 3}
	changed := slices.Clone(m)
	for i := range 32 {
		changed[32+i] = uint32(4*i) + 50 + uint32(4*i+51)<<8 + uint32(4*i+52)<<16 + uint32(4*i+53)<<24
	}
	for i, c := range []struct {
		d     api.Disk
		n     uint32
		data  string
		want  api.Disk
		after []uint32
		ok    bool
	}{
		{read, 1, page(50), done, changed, true},
		{read, 0, "", failed, m, true},
		{write, 1, "", done, m, true},
		{write, 0, "", failed, m, true},
		{read, 1, "", read, m, false},
		{read, 1, page(50)[:127], read, m, false},
		{read, 1, page(50) + "x", read, m, false},
		{read, 0, page(50), read, m, false},
		{read, 0, "x", read, m, false},
		{write, 1, page(50), write, m, false},
		{write, 0, page(50), write, m, false},
		{write, 1, "x", write, m, false},
		{read, 2, page(50), read, m, false},
		{read, 2, "", read, m, false},
		{write, 0xFFFFFFFF, "", write, m, false},
	} {
		got, after, ok := Complete(c.d, m, api.Event{Kind: api.EvDisk, N: c.n, Data: c.data})
		if got != c.want || !slices.Equal(after, c.after) || ok != c.ok {
			t.Errorf("%d: %+v, %v", i, got, ok)
		}
	}
}

// fits tells whether the event completes the command of the controller, condition by condition.
func fits(d api.Disk, pages int, e api.Event) bool {
	reads := e.N == 1 && d.Cmd == 1
	switch {
	case d.State != 1, e.Kind != 4, e.N != 0 && e.N != 1:
		return false
	case reads && len(e.Data) != 128:
		return false
	case !reads && len(e.Data) != 0:
		return false
	case reads && int64(d.OpFrame) >= int64(pages):
		return false
	}
	return true
}

// checkComplete expects what P9.4 says, and that the memory of the result is a new one.
func checkComplete(t *testing.T, d api.Disk, m []uint32, pages int, e api.Event) {
	t.Helper()
	kept := slices.Clone(m)
	want, changed := d, slices.Clone(m)
	ok := fits(d, pages, e)
	if ok {
		want = api.Disk{Blocks: d.Blocks, Block: d.Block, Frame: d.Frame, State: 3 - int(e.N)}
		for i := range e.Data {
			index, low := 32*int(d.OpFrame)+i/4, i%4*8
			changed[index] = changed[index]&^(0xFF<<low) | uint32(e.Data[i])<<low
		}
	}
	got, after, is := Complete(d, m, e)
	if got != want || is != ok || !slices.Equal(after, changed) {
		t.Fatalf("%+v, %d pages, event %+v: %+v, %v, want %+v, %v; the memory is right: %v", d, pages, e, got, is, want, ok, slices.Equal(after, changed))
	}
	spoil(after)
	if !slices.Equal(m, kept) {
		t.Fatalf("%+v, event %+v: the memory was changed", d, e)
	}
}

// TestComplete checks P9.4: controllers in all states with events of all kinds.
func TestComplete(t *testing.T) {
	for _, d := range disks() {
		for _, kind := range []int{0, 1, 2, 3, 4, 5, 6, 7, -4, 260, 1<<32 + 4, math.MinInt, math.MaxInt} {
			for _, n := range []uint32{0, 1, 2, 3, 256, 257, 1 << 31, 1<<31 + 1, math.MaxUint32} {
				if kind != 4 && (n > 2 || d.Blocks != 3) {
					continue
				}
				for _, content := range data() {
					checkComplete(t, d, fill(64), 2, api.Event{Kind: kind, N: n, Data: content})
				}
			}
		}
	}
}

// TestCompletePages checks P9.4: all frames of memories of all kinds; only a successful read needs the page.
func TestCompletePages(t *testing.T) {
	for _, m := range memories() {
		pages := 0
		if n := len(m); n%32 == 0 && n <= 1024 {
			pages = n / 32
		}
		for _, frame := range append(numbers, 30, uint32(pages)-1, uint32(pages)) {
			for _, cmd := range commands {
				for _, n := range []uint32{0, 1} {
					d := api.Disk{Blocks: 2, State: 1, Cmd: cmd, OpBlock: 1, OpFrame: frame, OpData: "x"}
					checkComplete(t, d, m, pages, api.Event{Kind: 4, N: n, Data: page(60)})
					checkComplete(t, d, m, pages, api.Event{Kind: 4, N: n})
				}
			}
		}
	}
}

// TestPending checks P9.5, Pending: only the state counts.
func TestPending(t *testing.T) {
	for _, d := range disks() {
		if got := Pending(d); got != (d.State == 2 || d.State == 3) {
			t.Errorf("%+v: %v", d, got)
		}
	}
	if Pending(api.Disk{}) || Pending(api.Disk{State: api.DiskBusy}) || !Pending(api.Disk{State: api.DiskDone}) || !Pending(api.Disk{State: api.DiskError}) {
		t.Error("a state with its name is wrong")
	}
}

// TestMayValues checks P9.5, May: valid controllers, and each condition broken alone.
func TestMayValues(t *testing.T) {
	read := api.Disk{Blocks: 64, Block: 70, Frame: 70, State: 1, Cmd: 1, OpBlock: 63, OpFrame: 31}
	write := api.Disk{Blocks: 64, State: 1, Cmd: 2, OpBlock: 63, OpFrame: 31, OpData: page(0)}
	for i, d := range []api.Disk{read, write, {}, {Blocks: 64}, {Block: 64, Frame: 32}, {State: 2}, {State: 3}, {Blocks: 1, State: 1, Cmd: 1}} {
		if !May(d, 32) {
			t.Errorf("%d: %+v is rejected", i, d)
		}
	}
	for _, change := range []func(*api.Disk){
		func(d *api.Disk) { d.Blocks = 65 },
		func(d *api.Disk) { d.Blocks = math.MaxUint32 },
		func(d *api.Disk) { d.Blocks = 63 },
		func(d *api.Disk) { d.Blocks = 0 },
		func(d *api.Disk) { d.State = -1 },
		func(d *api.Disk) { d.State = 0 },
		func(d *api.Disk) { d.State = 2 },
		func(d *api.Disk) { d.State = 3 },
		func(d *api.Disk) { d.State = 4 },
		func(d *api.Disk) { d.Cmd = 0 },
		func(d *api.Disk) { d.Cmd = 3 - d.Cmd },
		func(d *api.Disk) { d.Cmd = 3 },
		func(d *api.Disk) { d.Cmd = -1 },
		func(d *api.Disk) { d.OpBlock = 64 },
		func(d *api.Disk) { d.OpBlock = math.MaxUint32 },
		func(d *api.Disk) { d.OpFrame = 32 },
		func(d *api.Disk) { d.OpFrame = 1 << 31 },
		func(d *api.Disk) { d.OpFrame = math.MaxUint32 },
		func(d *api.Disk) { d.OpData += "x" },
	} {
		for _, d := range []api.Disk{read, write} {
			if change(&d); May(d, 32) {
				t.Errorf("%+v is accepted", d)
			}
		}
	}
	if write.OpData = page(0)[1:]; May(write, 32) {
		t.Error("a write of 127 bytes is accepted")
	}
	for _, state := range []int{0, 2, 3} {
		for _, d := range []api.Disk{{State: state, Cmd: 1}, {State: state, Cmd: -1}, {State: state, OpBlock: 1}, {State: state, OpFrame: 1}, {State: state, OpData: "\x00"}, {Blocks: 65, State: state}} {
			if May(d, 32) {
				t.Errorf("%+v is accepted", d)
			}
		}
	}
}

// may is P9.5 written down as one list of reasons.
func may(d api.Disk, pages int) bool {
	size := map[int]int{1: 0, 2: 128}
	want, known := size[d.Cmd]
	switch {
	case d.Blocks > 64, d.State < 0, d.State > 3:
		return false
	case d.State == 1:
		return known && d.OpBlock < d.Blocks && pages > 0 && uint64(d.OpFrame) < uint64(pages) && len(d.OpData) == want
	}
	d.Blocks, d.Block, d.Frame, d.State = 0, 0, 0, 0
	return d == api.Disk{}
}

// TestMay checks P9.5, May: controllers in all states with numbers of pages of all kinds.
func TestMay(t *testing.T) {
	for _, pages := range []int{math.MinInt, -1 << 32, -1, 0, 1, 2, 3, 31, 32, 33, 1 << 31, 1<<32 - 1, 1 << 32, 1<<32 + 1, math.MaxInt} {
		for _, d := range disks() {
			if got := May(d, pages); got != may(d, pages) {
				t.Errorf("%+v, %d pages: %v", d, pages, got)
			}
		}
		for _, frame := range numbers {
			d := api.Disk{Blocks: 1, State: 1, Cmd: 1, OpFrame: frame}
			if got := May(d, pages); got != may(d, pages) {
				t.Errorf("%+v, %d pages: %v", d, pages, got)
			}
		}
	}
	for _, blocks := range numbers {
		for _, block := range numbers {
			d := api.Disk{Blocks: blocks, State: 1, Cmd: 2, OpBlock: block, OpData: page(1)}
			if got := May(d, 1); got != may(d, 1) {
				t.Errorf("%+v: %v", d, got)
			}
		}
	}
}

// TestStoredContent checks P9.6: a write keeps the content of the page, whatever happens to the page and to the registers afterwards.
func TestStoredContent(t *testing.T) {
	for frame := range 32 {
		m := fill(32 * 32)
		want := bytesOf(m[32*frame:])
		d, outputs := Out(api.Disk{Blocks: 40, Block: 39, Frame: uint32(frame)}, m, 6, 2, 5)
		spoil(m)
		d, _ = Out(d, m, 5, uint32(frame+1)%32, 6)
		d, _ = Out(d, m, 4, 0, 7)
		d, _ = Out(d, m, 6, 2, 8)
		request, ok := Request(d, 9)
		if outputs[0].Data != want || request != (api.Output{Kind: 4, At: 9, Block: 39, Data: want}) || !ok {
			t.Errorf("frame %d: %+v, %+v", frame, outputs, request)
		}
	}
}

// TestInProgress checks P9.6: whatever is written to the ports, the command is the one that was issued, until it completes.
func TestInProgress(t *testing.T) {
	r := rand.New(rand.NewPCG(9, 6))
	all := ports()
	for _, cmd := range []uint32{1, 2} {
		m := fill(64)
		issued, _ := Out(api.Disk{Blocks: 3, Block: 2, Frame: 1}, m, 6, cmd, 5)
		d := issued
		for range 5000 {
			var outputs []api.Output
			d, outputs = Out(d, m, all[r.IntN(len(all))], numbers[r.IntN(len(numbers))], r.Uint64())
			same := d
			same.Block, same.Frame = issued.Block, issued.Frame
			if len(outputs) != 0 || same != issued {
				t.Fatalf("%+v became %+v, %+v", issued, d, outputs)
			}
		}
		e := api.Event{Kind: 4, N: 1}
		if cmd == 1 {
			e.Data = page(7)
		}
		checkComplete(t, d, m, 2, e)
	}
}

// guest is a controller with its memory and a disk that executes the commands, and what the guest expects of them.
type guest struct {
	d      api.Disk
	m      []uint32
	blocks []string
	model  []string
}

// run writes a port; a command that is issued is executed by the disk at once or fails.
func (g *guest) run(t *testing.T, port int, v uint32, succeeds bool) {
	t.Helper()
	idle := g.d.State == 0
	d, outputs := Out(g.d, g.m, port, v, 1)
	if g.d = d; len(outputs) == 0 {
		return
	}
	if !idle || d.State != 1 || len(outputs) != 1 {
		t.Fatalf("%+v, %+v", d, outputs)
	}
	e := api.Event{Kind: 4}
	if succeeds {
		e.N = 1
		g.execute(&e, outputs[0])
	}
	if !May(d, 2) {
		t.Fatalf("no machine may have %+v", d)
	}
	var ok bool
	if g.d, g.m, ok = Complete(d, g.m, e); !ok {
		t.Fatalf("%+v does not complete with %+v", d, e)
	}
}

// execute carries out a command on the disk and, by the guest's registers, on the model of disk and memory.
func (g *guest) execute(e *api.Event, output api.Output) {
	content := &g.model[2+g.d.Block]
	if output.Kind == 4 {
		g.blocks[output.Block] = output.Data
		*content = g.model[g.d.Frame]
		return
	}
	e.Data = g.blocks[output.Block]
	g.model[g.d.Frame] = *content
}

// check compares the memory and the disk with the model.
func (g *guest) check(t *testing.T) {
	t.Helper()
	got := append([]string{bytesOf(g.m), bytesOf(g.m[32:])}, g.blocks...)
	if !slices.Equal(got, g.model) || !May(g.d, 2) || g.d.State == 1 {
		t.Fatalf("%+v: the memory or the disk is wrong", g.d)
	}
}

// TestLife checks P9.1 to P9.6: a guest that writes to the ports at random finds in its memory and on the disk what its commands moved.
func TestLife(t *testing.T) {
	r := rand.New(rand.NewPCG(9, 1))
	blocks := []string{page(1), page(50), page(100)}
	g := guest{d: api.Disk{Blocks: 3}, m: fill(64), blocks: blocks}
	g.model = append([]string{bytesOf(g.m), bytesOf(g.m[32:])}, blocks...)
	moved := 0
	for range 20000 {
		if at := r.IntN(64); r.IntN(4) == 0 {
			g.m[at] = r.Uint32()
			g.model[at/32] = bytesOf(g.m[at/32*32:])
		}
		before := g.d.State
		g.run(t, 4+r.IntN(3), uint32(r.IntN(4)), r.IntN(5) > 0)
		g.check(t)
		if before == 0 && g.d.State == 2 {
			moved++
		}
		if Pending(g.d) != (In(g.d, 6) >= 2) {
			t.Fatalf("%+v: %v", g.d, Pending(g.d))
		}
	}
	if moved < 100 {
		t.Errorf("only %d commands succeeded", moved)
	}
}
