package machine

import (
	"math"
	"slices"

	"vmfleet/api"
	"vmfleet/console"
	"vmfleet/disk"
	"vmfleet/nic"
	"vmfleet/timer"
)

// Apply applies an event between two steps, and returns false if the event does not apply.
func Apply(m api.Machine, e api.Event) (api.Machine, bool) {
	m.Mem = slices.Clone(m.Mem)
	if !May(m) || m.Halted || !isEvent(e) {
		return m, false
	}
	return deliver(m, e)
}

// isEvent tells whether the event has only what its kind needs. What an EvDisk event needs depends on the command in progress.
func isEvent(e api.Event) bool {
	switch e.Kind {
	case api.EvTimer:
		return e.N == 0 && e.Data == ""
	case api.EvKey:
		return e.N <= math.MaxUint8 && e.Data == ""
	case api.EvBalloon:
		return e.Data == ""
	case api.EvNet:
		return e.N == 0
	}
	return e.Kind == api.EvDisk
}

// deliver gives an event to its device. A device that refuses it stays as it is.
func deliver(m api.Machine, e api.Event) (api.Machine, bool) {
	ok := true
	switch e.Kind {
	case api.EvTimer:
		m.Timer, ok = timer.Fire(m.Timer)
	case api.EvKey:
		m.Console, ok = console.Type(m.Console, byte(e.N))
	case api.EvDisk:
		m.Disk, m.Mem, ok = disk.Complete(m.Disk, m.Mem, e)
	case api.EvNet:
		m.Nic, m.Mem, ok = nic.Receive(m.Nic, m.Mem, e.Data)
	case api.EvBalloon:
		m.Balloon.Target = e.N
	}
	return m, ok
}
