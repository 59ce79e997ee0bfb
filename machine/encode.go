package machine

import (
	"strings"

	"vmfleet/api"
	"vmfleet/bits"
)

// Hash returns the hash of the encoding of a machine.
func Hash(m api.Machine) uint64 {
	return bits.Hash(api.HashStart, Encode(m))
}

// Encode returns a string that two machines have in common only if they are the same.
func Encode(m api.Machine) string {
	var w writer
	w.words(m.Cpu.X[:]...)
	w.words(m.Cpu.Pc)
	w.words(m.Cpu.Csr[:]...)
	w.number(uint64(len(m.Mem)))
	w.words(m.Mem...)
	w.text(m.Console.Keys)
	w.timer(m.Timer)
	w.disk(m.Disk)
	w.nic(m.Nic)
	w.words(m.Balloon.Target, m.Balloon.Given)
	w.number(m.Count)
	w.flag(m.Waiting)
	w.flag(m.Halted)
	return w.code.String()
}

// A writer collects an encoding. No value is separated from the next one: each of them tells where it ends.
type writer struct {
	code strings.Builder
}

func (w *writer) number(x uint64) {
	w.code.WriteString(bits.PutUvarint(x))
}

func (w *writer) words(list ...uint32) {
	for _, x := range list {
		w.number(uint64(x))
	}
}

func (w *writer) text(s string) {
	w.number(uint64(len(s)))
	w.code.WriteString(s)
}

func (w *writer) flag(set bool) {
	if set {
		w.number(1)
		return
	}
	w.number(0)
}

func (w *writer) timer(t api.Timer) {
	w.flag(t.Armed)
	w.words(t.Deadline)
	w.flag(t.Fired)
}

func (w *writer) disk(d api.Disk) {
	w.words(d.Blocks, d.Block, d.Frame)
	// A negative State or Cmd, which no valid machine has, keeps its bits and so remains different from all others.
	w.number(uint64(d.State))
	w.number(uint64(d.Cmd))
	w.words(d.OpBlock, d.OpFrame)
	w.text(d.OpData)
}

func (w *writer) nic(n api.Nic) {
	w.words(n.Frame, n.Len)
	w.flag(n.Posted)
	w.words(n.Buffer)
	w.flag(n.Received)
	w.words(n.Got)
}
