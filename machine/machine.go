// Package machine: the runs of some code, and the devices' queues.
package machine

import "herald/api"

// Machine is some runs of one code, the devices' queues, and the time.
type Machine struct {
	code   []api.Instr
	now    int
	begun  int   // how many runs have begun, those that have ended too
	runs   []run // those that have not ended, by their numbers
	queues [api.Devices]queue
}

// New begins with some code, of which it keeps a copy.
func New(code []api.Instr) (Machine, api.Errno) {
	if !sound(code) {
		return Machine{}, api.ErrCode
	}
	own := append([]api.Instr{}, code...)
	return Machine{code: own}, api.OK
}

// Show tells the time, the runs and the queues.
func (m *Machine) Show() api.State {
	state := api.State{Now: m.now}
	for _, r := range m.runs {
		state.Runs = append(state.Runs, r.shown)
	}
	for _, q := range m.queues {
		state.Queue = append(state.Queue, q.messages...)
	}
	return state
}

// Trigger begins a run, and answers its number.
func (m *Machine) Trigger(device int) (int, api.Errno) {
	if !isDevice(device) {
		return 0, api.ErrDevice
	}
	if len(m.runs) >= api.MaxRuns {
		return 0, api.ErrRuns
	}
	m.begun++
	index := len(m.runs)
	m.runs = append(m.runs, run{shown: api.Run{Id: m.begun, Device: device}})
	m.proceed(index)
	return m.begun, api.OK
}

// Tick lets time go by.
func (m *Machine) Tick(n int) api.Errno {
	if n < 1 || n > api.MaxTick || n > api.MaxTime-m.now {
		return api.ErrTime
	}
	end := m.now + n
	index := m.firstDue(end)
	// This ends, because each run that goes on stops until a later time, if it stops at all.
	for index < len(m.runs) {
		m.now = m.runs[index].shown.Until
		m.goOnWithout(index)
		index = m.firstDue(end)
	}
	m.now = end
	return api.OK
}

// Ack answers a message of a run.
func (m *Machine) Ack(id int, number int) api.Errno {
	index := m.find(id)
	if index == len(m.runs) {
		return api.ErrRun
	}
	r := m.runs[index]
	if number == 0 || number != r.shown.Number {
		return api.ErrWait
	}
	if m.queues[r.shown.Device].has(id, number) {
		return api.ErrQueue
	}
	m.runs[index].at = r.answered
	m.proceed(index)
	return api.OK
}

// Cancel ends a run, and takes its messages out.
func (m *Machine) Cancel(id int) api.Errno {
	index := m.find(id)
	if index == len(m.runs) {
		return api.ErrRun
	}
	device := m.runs[index].shown.Device
	m.queues[device].removeAll(id)
	m.remove(index)
	return api.OK
}

// Drain takes the first message of a device's queue.
func (m *Machine) Drain(device int) (api.Message, api.Errno) {
	if !isDevice(device) {
		return api.Message{}, api.ErrDevice
	}
	if len(m.queues[device].messages) == 0 {
		return api.Message{}, api.ErrEmpty
	}
	first := m.queues[device].messages[0]
	m.queues[device].remove(first.Run, first.Number)
	return first, api.OK
}

func isDevice(device int) bool {
	return device >= 0 && device < api.Devices
}

// find answers where the run of this number stands, or how many runs there are, if it is none of them.
func (m *Machine) find(id int) int {
	for i, r := range m.runs {
		if r.shown.Id == id {
			return i
		}
	}
	return len(m.runs)
}

// firstDue answers which run goes on first up to a time, or how many runs there are, if none does. The runs stand by their numbers, so of several the first found counts.
func (m *Machine) firstDue(end int) int {
	first := len(m.runs)
	least := end + 1
	for i, r := range m.runs {
		if r.shown.Until < least {
			first = i
			least = r.shown.Until
		}
	}
	return first
}

// goOnWithout lets a run go on without an answer; the message that it waited for must not be answered, nor drained, any more.
func (m *Machine) goOnWithout(index int) {
	shown := m.runs[index].shown
	if shown.Number != 0 {
		m.queues[shown.Device].remove(shown.Id, shown.Number)
	}
	m.proceed(index)
}

// proceed lets a run do what it does till it stops or ends.
func (m *Machine) proceed(index int) {
	r := m.runs[index]
	device := r.shown.Device
	alive := r.goOn(m.code, &m.queues[device], m.now)
	if alive {
		m.runs[index] = r
		return
	}
	m.remove(index)
}

func (m *Machine) remove(index int) {
	var rest []run
	for i, r := range m.runs {
		if i != index {
			rest = append(rest, r)
		}
	}
	m.runs = rest
}
