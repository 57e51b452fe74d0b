package machine

import "herald/api"

// What an instruction does to its run.
const (
	going   = 0
	stopped = 1
	ended   = 2
)

// run is a run that has not ended.
type run struct {
	shown     api.Run
	registers [api.Regs]int
	at        int // the next instruction, if no answer comes
	answered  int // the next instruction, if the answer comes
}

// goOn does instructions till the run stops or ends, and tells whether it stopped. A run that would do more than MaxSteps of them ends like one that is behind the last instruction.
func (r *run) goOn(code []api.Instr, q *queue, now int) bool {
	for steps := 0; steps < api.MaxSteps && r.at < len(code); steps++ {
		instr := code[r.at]
		outcome := r.do(instr, q, now)
		if outcome != going {
			return outcome == stopped
		}
	}
	return false
}

func (r *run) do(instr api.Instr, q *queue, now int) int {
	r.at++
	switch instr.Op {
	case api.End:
		return ended
	case api.Send:
		r.send(instr.A, q)
	case api.Wait:
		return r.stop(now+instr.A, 0)
	case api.Ask:
		return r.ask(instr, q, now)
	case api.Set:
		r.registers[instr.A] = instr.B
	case api.Twice:
		r.twice(instr.A)
	case api.Hold:
		return r.hold(instr, q, now)
	case api.Loop:
		r.loop(instr)
	case api.Jump:
		r.at = instr.C
	}
	return going
}

// send answers the number of the message, or 0 if sending fails: only messages that did not fail are numbered.
func (r *run) send(key int, q *queue) int {
	number := r.shown.Sent + 1
	message := api.Message{Device: r.shown.Device, Run: r.shown.Id, Number: number, Key: key}
	placed := q.put(message)
	if !placed {
		return 0
	}
	r.shown.Sent = number
	return number
}

// stop stops until a time, for the answer to the message of this number (0: for none).
func (r *run) stop(until int, number int) int {
	r.shown.Until = until
	r.shown.Number = number
	return stopped
}

func (r *run) ask(instr api.Instr, q *queue, now int) int {
	r.answered = r.at
	r.at = instr.C
	number := r.send(instr.A, q)
	if number == 0 {
		return going
	}
	return r.stop(now+instr.B, number)
}

// hold stops though sending may have failed, so that each try takes its time.
func (r *run) hold(instr api.Instr, q *queue, now int) int {
	r.answered = instr.C
	ticks := r.registers[instr.B]
	if ticks < 1 {
		ticks = 1
	}
	number := r.send(instr.A, q)
	return r.stop(now+ticks, number)
}

func (r *run) twice(register int) {
	r.registers[register] *= 2
	if r.registers[register] > api.MaxReg {
		r.registers[register] = api.MaxReg
	}
}

func (r *run) loop(instr api.Instr) {
	if r.registers[instr.A] > 0 {
		r.registers[instr.A]--
	}
	if r.registers[instr.A] > 0 {
		r.at = instr.C
	}
}
