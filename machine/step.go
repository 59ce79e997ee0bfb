package machine

import (
	"math/bits"
	"slices"

	"vmfleet/api"
	"vmfleet/balloon"
	"vmfleet/console"
	"vmfleet/cpu"
	"vmfleet/disk"
	"vmfleet/nic"
	"vmfleet/timer"
)

// ReadsClock tells whether the next step executes an In of PortClock.
func ReadsClock(m api.Machine) bool {
	if !canStep(m) {
		return false
	}
	_, effect := execute(m)
	return effect.Kind == api.EffectIn && effect.Port == api.PortClock
}

// Step executes one instruction and returns the outputs that it causes.
func Step(m api.Machine, clock uint32) (api.Machine, []api.Output) {
	if !canStep(m) {
		m.Mem = slices.Clone(m.Mem)
		return m, nil
	}
	m, effect := execute(m)
	m, outputs := complete(m, effect, clock)
	// The outputs have the Count before the step.
	m.Count++
	return m, outputs
}

func canStep(m api.Machine) bool {
	return May(m) && !m.Halted && !Idle(m) && m.Count < api.MaxCount
}

// execute does the part of a step that involves only the processor and the memory, and returns the effect that is left.
func execute(m api.Machine) (api.Machine, api.Effect) {
	m.Waiting = false
	c := m.Cpu
	if lines := enabledLines(m); c.Csr[api.CsrStatus]&api.StatusIrq != 0 && lines != 0 {
		c = cpu.Trap(c, api.CauseIrq+bits.TrailingZeros32(lines), 0)
	}
	var effect api.Effect
	m.Cpu, m.Mem, effect = cpu.Exec(c, m.Mem)
	return m, effect
}

// complete does what an instruction leaves to be done.
func complete(m api.Machine, e api.Effect, clock uint32) (api.Machine, []api.Output) {
	switch e.Kind {
	case api.EffectIn:
		return in(m, e, clock), nil
	case api.EffectOut:
		return out(m, e.Port, e.Value)
	case api.EffectWait:
		m.Waiting = true
	case api.EffectHalt:
		m.Halted = true
	}
	return m, nil
}

// in reads a port into a register. The read takes place for register 0, too: it removes a key.
func in(m api.Machine, e api.Effect, clock uint32) api.Machine {
	var v uint32
	switch e.Port {
	case api.PortKey, api.PortKeys:
		m.Console, v = console.In(m.Console, e.Port)
	case api.PortClock:
		v = clock
	case api.PortTimer:
		v = timer.In(m.Timer)
	case api.PortDiskBlock, api.PortDiskFrame, api.PortDisk:
		v = disk.In(m.Disk, e.Port)
	case api.PortNicFrame, api.PortNicLen, api.PortNic:
		v = nic.In(m.Nic, e.Port)
	case api.PortBalloon, api.PortDeflate:
		v = balloon.In(m.Balloon, e.Port)
	}
	if e.Reg != 0 {
		m.Cpu.X[e.Reg] = v
	}
	return m
}

// out writes a port and returns the outputs that the write causes.
func out(m api.Machine, port int, v uint32) (api.Machine, []api.Output) {
	var outputs []api.Output
	switch port {
	case api.PortKey:
		outputs = []api.Output{{Kind: api.OutByte, At: m.Count, Data: string([]byte{byte(v)})}}
	case api.PortTimer:
		m.Timer = timer.Arm(m.Timer, v)
	case api.PortDiskBlock, api.PortDiskFrame, api.PortDisk:
		m.Disk, outputs = disk.Out(m.Disk, m.Mem, port, v, m.Count)
	case api.PortNicFrame, api.PortNicLen, api.PortNic:
		m.Nic, outputs = nic.Out(m.Nic, m.Mem, port, v, m.Count)
	case api.PortBalloon, api.PortDeflate:
		m.Balloon, m.Mem = balloon.Out(m.Balloon, m.Mem, port, v)
	}
	return m, outputs
}
