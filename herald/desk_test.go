package herald_test

import (
	"slices"
	"testing"

	"herald/api"
	"herald/herald"
)

type code = []api.Instr

func end() api.Instr                    { return api.Instr{Op: api.End} }
func send(key int) api.Instr            { return api.Instr{Op: api.Send, A: key} }
func wait(n int) api.Instr              { return api.Instr{Op: api.Wait, A: n} }
func ask(key, n, other int) api.Instr   { return api.Instr{Op: api.Ask, A: key, B: n, C: other} }
func set(reg, n int) api.Instr          { return api.Instr{Op: api.Set, A: reg, B: n} }
func twice(reg int) api.Instr           { return api.Instr{Op: api.Twice, A: reg} }
func hold(key, reg, then int) api.Instr { return api.Instr{Op: api.Hold, A: key, B: reg, C: then} }
func loop(reg, place int) api.Instr     { return api.Instr{Op: api.Loop, A: reg, C: place} }
func jump(place int) api.Instr          { return api.Instr{Op: api.Jump, C: place} }

func msg(device, run, number, key int) api.Message {
	return api.Message{Device: device, Run: run, Number: number, Key: key}
}

func run(id, device, sent, until, number int) api.Run {
	return api.Run{Id: id, Device: device, Sent: sent, Until: until, Number: number}
}

// busy appends code that does just so many instructions, sends nothing and does not stop; it writes to the registers 10 and 11.
func busy(list code, steps int) code {
	for steps > 0 {
		rounds := min((steps-1)/2, api.MaxWait)
		if rounds == 0 {
			list = append(list, twice(10))
			steps--
			continue
		}
		list = append(list, set(11, rounds))
		list = append(list, twice(10), loop(11, len(list)))
		steps -= 1 + 2*rounds
	}
	return list
}

// A desk makes calls of a herald, and tells what is not as it ought to be.
type desk struct {
	t *testing.T
	h *herald.Herald
}

func begin(t *testing.T, list ...api.Instr) desk {
	t.Helper()
	h, fault := herald.New(list)
	if h == nil || fault != api.OK {
		t.Fatalf("P5: New(%v): %d", list, fault)
	}
	return desk{t, h}
}

func (d desk) trigger(device, want int) {
	d.t.Helper()
	id, fault := d.h.Trigger(device)
	if id != want || fault != api.OK {
		d.t.Errorf("P7: Trigger(%d) = %d, %d, want %d, 0", device, id, fault, want)
	}
}

func (d desk) triggerFails(device int, want api.Errno) {
	d.t.Helper()
	id, fault := d.h.Trigger(device)
	if id != 0 || fault != want {
		d.t.Errorf("P7: Trigger(%d) = %d, %d, want 0, %d", device, id, fault, want)
	}
}

func (d desk) tick(n int) {
	d.t.Helper()
	d.tickIs(n, api.OK)
}

func (d desk) tickIs(n int, want api.Errno) {
	d.t.Helper()
	fault := d.h.Tick(n)
	if fault != want {
		d.t.Errorf("P8: Tick(%d) = %d, want %d", n, fault, want)
	}
}

func (d desk) ack(id, number int, want api.Errno) {
	d.t.Helper()
	fault := d.h.Ack(id, number)
	if fault != want {
		d.t.Errorf("P9: Ack(%d, %d) = %d, want %d", id, number, fault, want)
	}
}

func (d desk) cancel(id int, want api.Errno) {
	d.t.Helper()
	fault := d.h.Cancel(id)
	if fault != want {
		d.t.Errorf("P9: Cancel(%d) = %d, want %d", id, fault, want)
	}
}

func (d desk) drain(want api.Message) {
	d.t.Helper()
	message, fault := d.h.Drain(want.Device)
	if message != want || fault != api.OK {
		d.t.Errorf("P9: Drain(%d) = %v, %d, want %v, 0", want.Device, message, fault, want)
	}
}

func (d desk) drainFails(device int, want api.Errno) {
	d.t.Helper()
	message, fault := d.h.Drain(device)
	if message != (api.Message{}) || fault != want {
		d.t.Errorf("P9: Drain(%d) = %v, %d, want none, %d", device, message, fault, want)
	}
}

func (d desk) shows(now int, runs []api.Run, queue ...api.Message) {
	d.t.Helper()
	state := d.h.Show()
	want := api.State{Now: now, Runs: runs, Queue: queue}
	if !sameState(state, want) {
		d.t.Errorf("P6: Show() = %v, want %v", state, want)
	}
}

// sameState takes an empty list for the same as none.
func sameState(a, b api.State) bool {
	return a.Now == b.Now && slices.Equal(a.Runs, b.Runs) && slices.Equal(a.Queue, b.Queue)
}
