package machine

import (
	"math"
	"slices"
	"strings"
	"testing"

	"vmfleet/api"
)

// checkApply applies an event and checks the machine, and that the result shares nothing with the argument.
func checkApply(t *testing.T, name string, m api.Machine, e api.Event, want api.Machine) {
	t.Helper()
	before := duplicate(m)
	got, ok := Apply(m, e)
	if !ok || !equal(got, want) || !May(got) {
		t.Errorf("%s: %v\n got %v\nwant %v", name, ok, got, want)
	}
	spoil(got.Mem)
	if !equal(m, before) {
		t.Errorf("%s: Apply changes or shares its argument", name)
	}
}

// open returns a machine to which every kind of event applies: its pages are filled.
func open() api.Machine {
	m := busy()
	m.Disk.Cmd, m.Disk.OpFrame, m.Disk.OpData = api.DiskRead, 1, ""
	m.Nic = api.Nic{Frame: 90, Len: 100, Posted: true, Buffer: 2}
	return m
}

// put returns the words of a memory of which the bytes from an address on are s.
func put(words []uint32, addr int, s string) []uint32 {
	words = slices.Clone(words)
	for i := range len(s) {
		shift := (addr + i) % 4 * 8
		word := &words[(addr+i)/4]
		*word = *word&^(0xFF<<shift) | uint32(s[i])<<shift
	}
	return words
}

// applyCase is an event that applies to an open machine, and what it changes.
type applyCase struct {
	name  string
	event api.Event
	after func(m *api.Machine)
}

// applyCases are events of all kinds that apply.
func applyCases() []applyCase {
	block := strings.Repeat("\x00\xffabc~\x80\x7f", 16)
	list := []applyCase{
		{"timer", api.Event{Kind: api.EvTimer}, func(m *api.Machine) { m.Timer.Armed, m.Timer.Fired = false, true }},
		{"disk fails", api.Event{Kind: api.EvDisk}, func(m *api.Machine) {
			m.Disk = api.Disk{Blocks: 3, Block: 70, Frame: 80, State: api.DiskError}
		}},
		{"disk reads", api.Event{Kind: api.EvDisk, N: 1, Data: block}, func(m *api.Machine) {
			m.Disk = api.Disk{Blocks: 3, Block: 70, Frame: 80, State: api.DiskDone}
			m.Mem = put(m.Mem, 128, block)
		}},
	}
	for _, length := range []int{1, 2, 3, 4, 5, 127, 128} {
		frame := block[:length]
		list = append(list, applyCase{"frame", api.Event{Kind: api.EvNet, Data: frame}, func(m *api.Machine) {
			m.Nic = api.Nic{Frame: 90, Len: 100, Received: true, Got: uint32(length)}
			m.Mem = put(m.Mem, 256, frame)
		}})
	}
	for b := range uint32(256) {
		list = append(list, applyCase{"key", api.Event{Kind: api.EvKey, N: b}, func(m *api.Machine) { m.Console.Keys += string([]byte{byte(b)}) }})
	}
	for _, target := range []uint32{0, 1, 2, 3, 32, 33, 255, 256, 1 << 31, math.MaxUint32} {
		list = append(list, applyCase{"balloon", api.Event{Kind: api.EvBalloon, N: target}, func(m *api.Machine) { m.Balloon.Target = target }})
	}
	return list
}

// TestApply checks P12.5: events that apply, to machines that wait and that do not, at all positions; a halted machine takes none.
func TestApply(t *testing.T) {
	for _, c := range applyCases() {
		for _, count := range []uint64{0, 12345, api.MaxCount} {
			m := open()
			m.Count = count
			want := duplicate(m)
			c.after(&want)
			checkApply(t, c.name, m, c.event, want)
			m.Waiting, want.Waiting = false, false
			checkApply(t, c.name, m, c.event, want)
			m.Halted = true
			noEvent(t, c.name+", halted", m, c.event)
		}
	}
}

// TestApplyWrite checks P12.5, EvDisk, for a write.
func TestApplyWrite(t *testing.T) {
	for n, state := range []int{api.DiskError, api.DiskDone} {
		m := busy()
		want := duplicate(m)
		want.Disk = api.Disk{Blocks: 3, Block: 70, Frame: 80, State: state}
		checkApply(t, "write", m, api.Event{Kind: api.EvDisk, N: uint32(n)}, want)
		noEvent(t, "write with data", m, api.Event{Kind: api.EvDisk, N: uint32(n), Data: strings.Repeat("x", 128)})
	}
}

// TestApplyRefuses checks P12.5: events that never apply, or not in this form.
func TestApplyRefuses(t *testing.T) {
	list := []api.Event{
		{Kind: api.EvTimer, Data: "x"}, {Kind: api.EvTimer, N: 1, Data: "x"},
		{Kind: api.EvKey, Data: "x"}, {Kind: api.EvKey, N: 'x', Data: "x"}, {Kind: api.EvKey, N: 'x', Data: "\x00"},
		{Kind: api.EvDisk, N: 1}, {Kind: api.EvDisk, N: 1, Data: strings.Repeat("x", 127)}, {Kind: api.EvDisk, N: 1, Data: strings.Repeat("x", 129)},
		{Kind: api.EvDisk, Data: "x"}, {Kind: api.EvDisk, Data: strings.Repeat("x", 128)}, {Kind: api.EvDisk, N: 2, Data: strings.Repeat("x", 128)}, {Kind: api.EvDisk, N: 2},
		{Kind: api.EvNet}, {Kind: api.EvNet, Data: strings.Repeat("x", 129)}, {Kind: api.EvNet, N: 1, Data: "x"}, {Kind: api.EvNet, N: 1}, {Kind: api.EvNet, N: math.MaxUint32, Data: "x"},
		{Kind: api.EvBalloon, Data: "x"}, {Kind: api.EvBalloon, N: 1, Data: "\x00"}, {Kind: api.EvBalloon, N: 3, Data: "x"},
	}
	for n := range 32 {
		list = append(list, api.Event{Kind: api.EvTimer, N: 1 << n})
		if n >= 8 {
			list = append(list, api.Event{Kind: api.EvKey, N: 1 << n}, api.Event{Kind: api.EvKey, N: 1<<n + 'x'})
		}
	}
	for _, kind := range []int{math.MinInt, -6, -2, -1, 0, api.EvClock, 7, 8, 256 + api.EvTimer, 1<<32 + api.EvBalloon, math.MaxInt} {
		list = append(list, api.Event{Kind: kind}, api.Event{Kind: kind, N: 1}, api.Event{Kind: kind, Data: "x"}, api.Event{Kind: kind, N: 1, Data: strings.Repeat("x", 128)})
	}
	for _, e := range list {
		noEvent(t, "open", open(), e)
	}
}

// TestApplyToDevices checks P12.5: events that the device refuses.
func TestApplyToDevices(t *testing.T) {
	block := strings.Repeat("x", 128)
	for name, c := range map[string]struct {
		event api.Event
		edit  func(m *api.Machine)
	}{
		"timer not armed":    {api.Event{Kind: api.EvTimer}, func(m *api.Machine) { m.Timer = api.Timer{} }},
		"timer fired":        {api.Event{Kind: api.EvTimer}, func(m *api.Machine) { m.Timer = api.Timer{Deadline: 5, Fired: true} }},
		"queue full":         {api.Event{Kind: api.EvKey, N: 'x'}, func(m *api.Machine) { m.Console.Keys = "0123456789abcdef" }},
		"disk idle":          {api.Event{Kind: api.EvDisk}, func(m *api.Machine) { m.Disk = api.Disk{Blocks: 3} }},
		"disk idle, success": {api.Event{Kind: api.EvDisk, N: 1, Data: block}, func(m *api.Machine) { m.Disk = api.Disk{Blocks: 3} }},
		"disk done":          {api.Event{Kind: api.EvDisk, N: 1}, func(m *api.Machine) { m.Disk = api.Disk{Blocks: 3, State: api.DiskDone} }},
		"nothing posted":     {api.Event{Kind: api.EvNet, Data: "x"}, func(m *api.Machine) { m.Nic = api.Nic{} }},
		"received":           {api.Event{Kind: api.EvNet, Data: "x"}, func(m *api.Machine) { m.Nic = api.Nic{Received: true, Got: 1} }},
	} {
		m := open()
		c.edit(&m)
		if !May(m) {
			t.Fatal(name)
		}
		noEvent(t, name, m, c.event)
	}
}

// TestApplyKeys checks P12.5: the queue takes 16 keys, and the machine reads them in order.
func TestApplyKeys(t *testing.T) {
	m := boot(t, strings.Repeat("in r1, 0\nout r1, 0\n", 17))
	for i := range uint32(16) {
		var ok bool
		if m, ok = Apply(m, api.Event{Kind: api.EvKey, N: 'a' + i}); !ok {
			t.Fatal("key", i)
		}
	}
	noEvent(t, "17th key", m, api.Event{Kind: api.EvKey, N: 'q'})
	m, outputs := run(m, 34, 0)
	var echo strings.Builder
	for _, o := range outputs {
		echo.WriteString(o.Data)
	}
	if echo.String() != "abcdefghijklmnop\xff" || m.Cpu.X[1] != math.MaxUint32 {
		t.Errorf("%q", echo.String())
	}
}
