// Package herald: deliveries by small programs: see DOC.md.
package herald

import (
	"herald/api"
	"herald/compile"
	"herald/machine"
	"herald/script"
)

// Herald is some runs of one program, and the devices' queues.
type Herald struct {
	machine machine.Machine
}

// Longest tells how many ticks a run of a text can take; with an error, the place (P3, P4).
func Longest(text string) (int, api.Errno, int) {
	program, fault, place := script.Read(text)
	return program.Longest, fault, place
}

// Compile makes code of a text; with an error, the place (P3, P12).
func Compile(text string) ([]api.Instr, api.Errno, int) {
	program, fault, place := script.Read(text)
	if fault != api.OK {
		return nil, fault, place
	}
	code := compile.Code(program)
	return code, api.OK, 0
}

// New begins with some code (P5).
func New(code []api.Instr) (*Herald, api.Errno) {
	begun, fault := machine.New(code)
	if fault != api.OK {
		return nil, fault
	}
	return &Herald{machine: begun}, api.OK
}

// Show tells the time, the runs and the queues (P6).
func (h *Herald) Show() api.State {
	return h.machine.Show()
}

// Trigger begins a run (P7).
func (h *Herald) Trigger(device int) (int, api.Errno) {
	return h.machine.Trigger(device)
}

// Tick lets time go by (P8).
func (h *Herald) Tick(n int) api.Errno {
	return h.machine.Tick(n)
}

// Ack answers a message (P9).
func (h *Herald) Ack(run int, number int) api.Errno {
	return h.machine.Ack(run, number)
}

// Cancel ends a run (P9).
func (h *Herald) Cancel(run int) api.Errno {
	return h.machine.Cancel(run)
}

// Drain takes the first message of a device's queue (P9).
func (h *Herald) Drain(device int) (api.Message, api.Errno) {
	return h.machine.Drain(device)
}

// Journal tells what has been done so far (P10).
func (h *Herald) Journal() string { return "" }

// Open begins with some code, and does again what a journal tells; how many of its records (P11).
func Open(code []api.Instr, journal string) (*Herald, int, api.Errno) { return nil, 0, api.OK }
