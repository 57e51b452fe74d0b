// Package herald: deliveries by small programs: see DOC.md.
package herald

import (
	"herald/api"
	"herald/compile"
	"herald/machine"
	"herald/record"
	"herald/script"
)

// Herald is some runs of one program, and the devices' queues.
type Herald struct {
	machine machine.Machine
	records []byte // of the calls so far that answered OK
}

// Longest tells how many ticks a run of a text can take; with an error, the place (P3, P4).
func Longest(text string) (int, api.Errno, int) {
	program, fault, place := script.Read(text)
	return program.Longest, fault, place
}

// Compile makes code of a text; with an error, the place (P3, P12).
func Compile(text string) ([]api.Instr, api.Errno, int) {
	program, fault, place := script.Read(text)
	if fault != api.OK {
		return nil, fault, place
	}
	code := compile.Code(program)
	return code, api.OK, 0
}

// New begins with some code (P5).
func New(code []api.Instr) (*Herald, api.Errno) {
	begun, fault := machine.New(code)
	if fault != api.OK {
		return nil, fault
	}
	return &Herald{machine: begun}, api.OK
}

// Show tells the time, the runs and the queues (P6).
func (h *Herald) Show() api.State {
	return h.machine.Show()
}

// Trigger begins a run (P7).
func (h *Herald) Trigger(device int) (int, api.Errno) {
	id, fault := h.machine.Trigger(device)
	h.note(fault, record.Call{Name: record.Trigger, First: device})
	return id, fault
}

// Tick lets time go by (P8).
func (h *Herald) Tick(n int) api.Errno {
	fault := h.machine.Tick(n)
	h.note(fault, record.Call{Name: record.Tick, First: n})
	return fault
}

// Ack answers a message (P9).
func (h *Herald) Ack(run int, number int) api.Errno {
	fault := h.machine.Ack(run, number)
	h.note(fault, record.Call{Name: record.Ack, First: run, Second: number})
	return fault
}

// Cancel ends a run (P9).
func (h *Herald) Cancel(run int) api.Errno {
	fault := h.machine.Cancel(run)
	h.note(fault, record.Call{Name: record.Cancel, First: run})
	return fault
}

// Drain takes the first message of a device's queue (P9).
func (h *Herald) Drain(device int) (api.Message, api.Errno) {
	message, fault := h.machine.Drain(device)
	h.note(fault, record.Call{Name: record.Drain, First: device})
	return message, fault
}

// Journal tells what has been done so far (P10).
func (h *Herald) Journal() string {
	return string(h.records)
}

// Open begins with some code, and does again what a journal tells; how many of its records (P11).
func Open(code []api.Instr, journal string) (*Herald, int, api.Errno) {
	h, fault := New(code)
	if fault != api.OK {
		return nil, 0, fault
	}
	made := 0
	for start := 0; len(journal)-start >= api.Record; start += api.Record {
		stands := h.redo(journal[start : start+api.Record])
		if !stands {
			return h, made, api.OK
		}
		made++
	}
	return h, made, api.OK
}

// note writes down a call; one that failed has changed nothing, and has no record.
func (h *Herald) note(fault api.Errno, call record.Call) {
	if fault != api.OK {
		return
	}
	written := record.Write(call)
	h.records = append(h.records, written...)
}

// redo makes the call of a record, which writes it down anew; false, if the record does not stand.
func (h *Herald) redo(bytes string) bool {
	call, whole := record.Read(bytes)
	if !whole {
		return false
	}
	fault := h.do(call)
	return fault == api.OK
}

func (h *Herald) do(call record.Call) api.Errno {
	switch call.Name {
	case record.Trigger:
		_, fault := h.Trigger(call.First)
		return fault
	case record.Tick:
		return h.Tick(call.First)
	case record.Ack:
		return h.Ack(call.First, call.Second)
	case record.Cancel:
		return h.Cancel(call.First)
	}
	_, fault := h.Drain(call.First)
	return fault
}
