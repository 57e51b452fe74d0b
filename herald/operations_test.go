package herald_test

import (
	"testing"

	"herald/api"
)

func TestEnd(t *testing.T) {
	d := begin(t, send(0), end(), send(1), wait(5))
	d.trigger(0, 1)
	d.shows(0, nil, msg(0, 1, 1, 0))
}

func TestRunEndsBehindTheLastInstruction(t *testing.T) {
	for _, list := range []code{nil, {set(0, 1)}, {jump(1)}, {set(0, 5), loop(0, 2)}, {jump(2), wait(1)}} {
		d := begin(t, list...)
		d.trigger(1, 1)
		d.shows(0, nil)
	}
	// so it does when it goes on, answered or not
	d := begin(t, ask(0, 5, 1))
	d.trigger(1, 1)
	d.trigger(1, 2)
	d.drain(msg(1, 1, 1, 0))
	d.ack(1, 1, api.OK)
	d.shows(0, []api.Run{run(2, 1, 1, 5, 1)}, msg(1, 2, 1, 0))
	d.tick(5)
	d.shows(5, nil)
}

func TestSendTakesThePlaceOfTheSameRunAndKey(t *testing.T) {
	d := begin(t, send(0), send(1), send(0), wait(3), send(1), send(2), wait(9))
	d.trigger(0, 1)
	d.shows(0, []api.Run{run(1, 0, 3, 3, 0)}, msg(0, 1, 3, 0), msg(0, 1, 2, 1))
	d.trigger(0, 2) // another run's messages of these keys stand by themselves
	d.shows(0, []api.Run{run(1, 0, 3, 3, 0), run(2, 0, 3, 3, 0)}, msg(0, 1, 3, 0), msg(0, 1, 2, 1), msg(0, 2, 3, 0), msg(0, 2, 2, 1))
	d.tick(3) // the queue is full: there is a place for b, but none for c
	d.shows(3, []api.Run{run(1, 0, 4, 12, 0), run(2, 0, 4, 12, 0)}, msg(0, 1, 3, 0), msg(0, 1, 4, 1), msg(0, 2, 3, 0), msg(0, 2, 4, 1))
}

func TestSendComesBehindAllOthersOnceDrained(t *testing.T) {
	d := begin(t, send(0), send(1), wait(1), send(0), wait(1))
	d.trigger(2, 1)
	d.drain(msg(2, 1, 1, 0))
	d.tick(1)
	d.shows(1, []api.Run{run(1, 2, 3, 2, 0)}, msg(2, 1, 2, 1), msg(2, 1, 3, 0))
}

func TestSendFailsAtAFullQueueOfItsDeviceAlone(t *testing.T) {
	d := begin(t, send(7), wait(9))
	for id := 1; id <= 4; id++ {
		d.trigger(0, id)
	}
	d.trigger(0, 5)
	d.cancel(4, api.OK)
	d.shows(0, []api.Run{run(1, 0, 1, 9, 0), run(2, 0, 1, 9, 0), run(3, 0, 1, 9, 0), run(5, 0, 0, 9, 0)}, msg(0, 1, 1, 7), msg(0, 2, 1, 7), msg(0, 3, 1, 7))
	d.cancel(5, api.OK)
	d.trigger(0, 6)
	d.trigger(1, 7)
	d.shows(0, []api.Run{run(1, 0, 1, 9, 0), run(2, 0, 1, 9, 0), run(3, 0, 1, 9, 0), run(6, 0, 1, 9, 0), run(7, 1, 1, 9, 0)}, msg(0, 1, 1, 7), msg(0, 2, 1, 7), msg(0, 3, 1, 7), msg(0, 6, 1, 7), msg(1, 7, 1, 7))
}

// A message that failed has no number: the next one that does not fail gets it.
func TestFailedSendsAreNotNumbered(t *testing.T) {
	d := begin(t, send(0), send(1), send(2), send(3), send(4), send(5), send(3), wait(1), send(6), wait(1))
	d.trigger(0, 1)
	d.shows(0, []api.Run{run(1, 0, 5, 1, 0)}, msg(0, 1, 1, 0), msg(0, 1, 2, 1), msg(0, 1, 3, 2), msg(0, 1, 5, 3))
	d.drain(msg(0, 1, 1, 0))
	d.tick(1)
	d.shows(1, []api.Run{run(1, 0, 6, 2, 0)}, msg(0, 1, 2, 1), msg(0, 1, 3, 2), msg(0, 1, 5, 3), msg(0, 1, 6, 6))
}

func TestEachKeyIsSent(t *testing.T) {
	for key := 0; key < api.Keys; key++ {
		d := begin(t, send(key), ask(key, 1, 0), end())
		d.trigger(1, 1)
		d.shows(0, []api.Run{run(1, 1, 2, 1, 2)}, msg(1, 1, 2, key))
	}
}

func TestWait(t *testing.T) {
	for _, n := range []int{1, 2, 998, 999} {
		d := begin(t, wait(n), send(0), wait(1))
		d.trigger(0, 1)
		d.shows(0, []api.Run{run(1, 0, 0, n, 0)})
		d.ack(1, 0, api.ErrWait)
		if n > 1 {
			d.tick(n - 1)
			d.shows(n-1, []api.Run{run(1, 0, 0, n, 0)})
		} else {
			d.shows(0, []api.Run{run(1, 0, 0, n, 0)})
		}
		d.tick(1)
		d.shows(n, []api.Run{run(1, 0, 1, n+1, 0)}, msg(0, 1, 1, 0))
	}
}

// answers is ask a, then send b and wait if answered, else send c and wait.
func answers(ticks int) code {
	return code{ask(0, ticks, 4), send(1), wait(1), end(), send(2), wait(1)}
}

func TestAsk(t *testing.T) {
	for _, n := range []int{1, 2, 999} {
		d := begin(t, answers(n)...)
		d.trigger(1, 1)
		d.shows(0, []api.Run{run(1, 1, 1, n, 1)}, msg(1, 1, 1, 0))
		d.drain(msg(1, 1, 1, 0))
		d.ack(1, 1, api.OK) // the answer may come at once
		d.shows(0, []api.Run{run(1, 1, 2, 1, 0)}, msg(1, 1, 2, 1))
		d = begin(t, answers(n)...)
		d.trigger(1, 1)
		d.drain(msg(1, 1, 1, 0))
		d.tick(n)
		d.shows(n, []api.Run{run(1, 1, 2, n+1, 0)}, msg(1, 1, 2, 2))
		d.ack(1, 1, api.ErrWait)
	}
}

func TestAskThatNobodyDrainsIsTakenOut(t *testing.T) {
	d := begin(t, send(3), ask(0, 5, 2), wait(9))
	d.trigger(0, 1)
	d.trigger(0, 2)
	d.shows(0, []api.Run{run(1, 0, 2, 5, 2), run(2, 0, 2, 5, 2)}, msg(0, 1, 1, 3), msg(0, 1, 2, 0), msg(0, 2, 1, 3), msg(0, 2, 2, 0))
	d.tick(4)
	d.ack(1, 2, api.ErrQueue)
	d.drain(msg(0, 1, 1, 3))
	d.drain(msg(0, 1, 2, 0))
	d.tick(1) // only the message that was waited for, and only of its run
	d.shows(5, []api.Run{run(1, 0, 2, 14, 0), run(2, 0, 2, 14, 0)}, msg(0, 2, 1, 3))
}

// The message is taken out ahead of what the run does next: so the next one of this key comes behind all others, and there is room for one more.
func TestAskIsTakenOutAheadOfTheNext(t *testing.T) {
	d := begin(t, ask(0, 2, 1), send(0), wait(5))
	d.trigger(0, 1)
	d.tick(1)
	d.trigger(0, 2)
	d.tick(1)
	d.shows(2, []api.Run{run(1, 0, 2, 7, 0), run(2, 0, 1, 3, 1)}, msg(0, 2, 1, 0), msg(0, 1, 2, 0))
	d = begin(t, send(1), send(2), send(3), ask(0, 2, 4), send(4), wait(5))
	d.trigger(0, 1)
	d.tick(2)
	d.shows(2, []api.Run{run(1, 0, 5, 7, 0)}, msg(0, 1, 1, 1), msg(0, 1, 2, 2), msg(0, 1, 3, 3), msg(0, 1, 5, 4))
}

// An answered message's key may have been sent again by nobody but its run, so what lies in the queue stays.
func TestAnsweredRunKeepsItsOtherMessages(t *testing.T) {
	d := begin(t, ask(0, 9, 3), send(2), wait(1), end())
	d.trigger(0, 1)
	d.drain(msg(0, 1, 1, 0))
	d.trigger(0, 2)
	d.ack(1, 1, api.OK)
	d.shows(0, []api.Run{run(1, 0, 2, 1, 0), run(2, 0, 1, 9, 1)}, msg(0, 2, 1, 0), msg(0, 1, 2, 2))
}

func TestAskTakesThePlaceOfASentKey(t *testing.T) {
	d := begin(t, send(0), send(1), ask(0, 4, 3), wait(3))
	d.trigger(0, 1)
	d.shows(0, []api.Run{run(1, 0, 3, 4, 3)}, msg(0, 1, 3, 0), msg(0, 1, 2, 1))
	d.ack(1, 1, api.ErrWait)
	d.ack(1, 2, api.ErrWait)
	d.ack(1, 3, api.ErrQueue)
	d.drain(msg(0, 1, 3, 0))
	d.ack(1, 3, api.OK)
	d.shows(0, []api.Run{run(1, 0, 3, 3, 0)}, msg(0, 1, 2, 1))
}

func TestAskThatFailsGoesOnAtOnce(t *testing.T) {
	d := begin(t, send(0), send(1), send(2), send(3), ask(5, 5, 6), wait(1), wait(7))
	d.trigger(0, 1)
	full := []api.Message{msg(0, 1, 1, 0), msg(0, 1, 2, 1), msg(0, 1, 3, 2), msg(0, 1, 4, 3)}
	d.shows(0, []api.Run{run(1, 0, 4, 7, 0)}, full...)
	d.ack(1, 4, api.ErrWait)
	d.ack(1, 5, api.ErrWait)
	d.ack(1, 0, api.ErrWait)
	d.tick(7)
	d.shows(7, nil, full...)
	// one that finds its key in a full queue does not fail
	d = begin(t, send(0), send(1), send(2), send(3), ask(1, 5, 6), wait(1), wait(7))
	d.trigger(0, 1)
	d.shows(0, []api.Run{run(1, 0, 5, 5, 5)}, msg(0, 1, 1, 0), msg(0, 1, 5, 1), msg(0, 1, 3, 2), msg(0, 1, 4, 3))
}

// Registers can be told by how long Hold stops.
func TestSetAndTwice(t *testing.T) {
	for reg := 0; reg < api.Regs; reg++ {
		for _, n := range []int{1, 2, 500, 999} {
			d := begin(t, set(reg, 7), set(reg, n), set((reg+1)%api.Regs, 3), hold(0, reg, 4))
			d.trigger(0, 1)
			d.shows(0, []api.Run{run(1, 0, 1, n, 1)}, msg(0, 1, 1, 0))
			d = begin(t, set(reg, n), set((reg+5)%api.Regs, 3), twice(reg), hold(0, reg, 4))
			d.trigger(0, 1)
			d.shows(0, []api.Run{run(1, 0, 1, 2*n, 1)}, msg(0, 1, 1, 0))
		}
	}
}

func TestTwiceStaysWithinMaxReg(t *testing.T) {
	cases := []struct{ first, times, want int }{
		{0, 1, 1}, {0, 40, 1}, {1, 0, 1}, {1, 19, 1 << 19}, {1, 20, api.MaxReg}, {1, 21, api.MaxReg}, {1, 200, api.MaxReg},
		{999, 10, 999 << 10}, {999, 9, 999 << 9}, {976, 10, 976 << 10}, {977, 10, api.MaxReg}, {625, 5, 20000}, {500, 11, api.MaxReg},
	}
	for _, c := range cases {
		list := code{set(4, c.first)}
		for i := 0; i < c.times; i++ {
			list = append(list, twice(4))
		}
		list = append(list, hold(0, 4, 0))
		d := begin(t, list...)
		d.trigger(0, 1)
		want := min(c.want, api.MaxReg)
		d.shows(0, []api.Run{run(1, 0, 1, want, 1)}, msg(0, 1, 1, 0))
	}
}

func TestRegistersAreNoughtAtFirst(t *testing.T) {
	for reg := 0; reg < api.Regs; reg++ {
		// a run leaves nothing behind for the next one
		d := begin(t, hold(0, reg, 2), jump(4), set(reg, 99), end(), set(reg, 77), wait(5))
		d.trigger(0, 1)
		d.tick(1)
		d.shows(1, []api.Run{run(1, 0, 1, 6, 0)})
		d.trigger(0, 2)
		d.shows(1, []api.Run{run(1, 0, 1, 6, 0), run(2, 0, 1, 2, 1)}, msg(0, 2, 1, 0))
	}
}

func TestEachRunHasItsOwnRegisters(t *testing.T) {
	// three rounds of wait 2, then hold as long as register 1 says
	d := begin(t, set(0, 3), set(1, 4), wait(2), twice(1), loop(0, 2), hold(0, 1, 6))
	d.trigger(0, 1)
	d.tick(3)
	d.trigger(1, 2)
	d.tick(3)
	d.shows(6, []api.Run{run(1, 0, 1, 38, 1), run(2, 1, 0, 7, 0)}, msg(0, 1, 1, 0))
	d.tick(3)
	d.shows(9, []api.Run{run(1, 0, 1, 38, 1), run(2, 1, 1, 41, 1)}, msg(0, 1, 1, 0), msg(1, 2, 1, 0))
}

// tries holds a up to three times, from 4 ticks on; then send c if answered, else send b.
var tries = code{set(0, 3), set(1, 4), hold(0, 1, 7), twice(1), loop(0, 2), send(1), jump(8), send(2)}

func TestHoldUnanswered(t *testing.T) {
	d := begin(t, tries...)
	d.trigger(0, 1)
	d.shows(0, []api.Run{run(1, 0, 1, 4, 1)}, msg(0, 1, 1, 0))
	d.tick(3)
	d.shows(3, []api.Run{run(1, 0, 1, 4, 1)}, msg(0, 1, 1, 0))
	d.tick(1)
	d.shows(4, []api.Run{run(1, 0, 2, 12, 2)}, msg(0, 1, 2, 0))
	d.tick(8)
	d.shows(12, []api.Run{run(1, 0, 3, 28, 3)}, msg(0, 1, 3, 0))
	d.tick(15)
	d.shows(27, []api.Run{run(1, 0, 3, 28, 3)}, msg(0, 1, 3, 0))
	d.tick(1)
	d.shows(28, nil, msg(0, 1, 4, 1))
}

func TestHoldAnswered(t *testing.T) {
	d := begin(t, tries...)
	d.trigger(0, 1)
	d.tick(4)
	d.ack(1, 1, api.ErrWait)
	d.ack(1, 2, api.ErrQueue)
	d.drain(msg(0, 1, 2, 0))
	d.tick(7)
	d.ack(1, 3, api.ErrWait)
	d.ack(1, 2, api.OK)
	d.shows(11, nil, msg(0, 1, 3, 2))
}

func TestHoldThatFailsStopsForNoAnswer(t *testing.T) {
	full := []api.Message{msg(2, 1, 1, 1), msg(2, 1, 2, 2), msg(2, 1, 3, 3), msg(2, 1, 4, 4)}
	d := begin(t, send(1), send(2), send(3), send(4), set(3, 6), hold(0, 3, 0), hold(0, 4, 0), wait(9))
	d.trigger(2, 1)
	d.shows(0, []api.Run{run(1, 2, 4, 6, 0)}, full...)
	for number := 0; number < 7; number++ {
		d.ack(1, number, api.ErrWait)
	}
	d.tick(6)
	d.shows(6, []api.Run{run(1, 2, 4, 7, 0)}, full...) // a register of 0 stops for one tick
	d.drain(full[0])
	d.tick(1)
	d.shows(7, []api.Run{run(1, 2, 4, 16, 0)}, full[1:]...)
}

// A Hold that failed waits for none of the earlier messages, so none is taken out when it goes on.
func TestHoldThatFailsTakesNothingOut(t *testing.T) {
	d := begin(t, hold(0, 0, 2), jump(0), send(1), send(2), send(3), send(4), hold(5, 0, 0), wait(3))
	d.trigger(0, 1)
	d.drain(msg(0, 1, 1, 0))
	d.ack(1, 1, api.OK)
	d.tick(1)
	d.shows(1, []api.Run{run(1, 0, 5, 4, 0)}, msg(0, 1, 2, 1), msg(0, 1, 3, 2), msg(0, 1, 4, 3), msg(0, 1, 5, 4))
}

func TestLoop(t *testing.T) {
	for _, c := range []struct{ first, rounds int }{{0, 1}, {1, 1}, {2, 2}, {3, 3}, {9, 9}, {999, 999}} {
		// each round sends once; the queue keeps the last of them
		d := begin(t, set(6, c.first), send(5), loop(6, 1), wait(1))
		d.trigger(0, 1)
		d.shows(0, []api.Run{run(1, 0, c.rounds, 1, 0)}, msg(0, 1, c.rounds, 5))
	}
}

// Behind a Loop that is done the register is 0: Twice leaves it so, and another Loop goes on.
func TestLoopLeavesNought(t *testing.T) {
	d := begin(t, set(6, 3), loop(6, 1), loop(6, 5), twice(6), hold(0, 6, 0), send(4), wait(1))
	d.trigger(0, 1)
	d.shows(0, []api.Run{run(1, 0, 1, 1, 1)}, msg(0, 1, 1, 0))
	// part of the way down, it is what is left
	d = begin(t, set(6, 9), loop(6, 2), loop(6, 3), hold(0, 6, 0))
	d.trigger(0, 1)
	d.shows(0, []api.Run{run(1, 0, 1, 7, 1)}, msg(0, 1, 1, 0))
}

// Were a register ever below 0, it would be doubled beyond the least number there is, and come out above 0.
func TestLoopGoesNoLowerThanNought(t *testing.T) {
	list := code{loop(6, 1)}
	for i := 0; i < 63; i++ {
		list = append(list, twice(6))
	}
	list = append(list, loop(6, len(list)+1), hold(0, 6, 0))
	d := begin(t, list...)
	d.trigger(0, 1)
	d.shows(0, []api.Run{run(1, 0, 1, 1, 1)}, msg(0, 1, 1, 0))
}

func TestJump(t *testing.T) {
	d := begin(t, jump(3), send(1), jump(5), send(2), jump(1), wait(4))
	d.trigger(0, 1)
	d.shows(0, []api.Run{run(1, 0, 2, 4, 0)}, msg(0, 1, 1, 2), msg(0, 1, 2, 1))
}

func TestRunsThatDoNotStopEnd(t *testing.T) {
	for _, list := range []code{{jump(0)}, {set(2, 9), jump(0)}, {set(0, 2), loop(0, 0)}, {jump(1), jump(0)}, {set(0, 999), twice(0), loop(0, 1)}} {
		d := begin(t, list...)
		d.trigger(0, 1)
		d.shows(0, nil)
		d.trigger(0, 2)
	}
	// each round of two instructions sends once, so half of MaxSteps are sent
	d := begin(t, send(1), jump(0))
	d.trigger(0, 1)
	d.shows(0, nil, msg(0, 1, api.MaxSteps/2, 1))
	// sends that fail, and asks, go on for ever too
	d = begin(t, send(1), send(2), send(3), send(4), ask(5, 9, 4))
	d.trigger(0, 1)
	d.shows(0, nil, msg(0, 1, 1, 1), msg(0, 1, 2, 2), msg(0, 1, 3, 3), msg(0, 1, 4, 4))
}

func TestLastInstructionOfMaxSteps(t *testing.T) {
	for _, extra := range []int{-1, 0, 1, 2} {
		ahead := api.MaxSteps - 1 + extra // instructions ahead of the one that counts
		d := begin(t, append(busy(nil, ahead), wait(3))...)
		d.trigger(0, 1)
		if extra > 0 {
			d.shows(0, nil)
		} else {
			d.shows(0, []api.Run{run(1, 0, 0, 3, 0)})
		}
		d = begin(t, append(busy(nil, ahead), ask(2, 3, 0))...)
		d.trigger(0, 1)
		if extra > 0 {
			d.shows(0, nil)
		} else {
			d.shows(0, []api.Run{run(1, 0, 1, 3, 1)}, msg(0, 1, 1, 2))
		}
		d = begin(t, append(busy(nil, ahead), hold(2, 0, 0))...)
		d.trigger(0, 1)
		if extra > 0 {
			d.shows(0, nil)
		} else {
			d.shows(0, []api.Run{run(1, 0, 1, 1, 1)}, msg(0, 1, 1, 2))
		}
		d = begin(t, append(busy(nil, ahead), send(2))...)
		d.trigger(0, 1)
		if extra > 0 {
			d.shows(0, nil)
		} else {
			d.shows(0, nil, msg(0, 1, 1, 2))
		}
	}
}

// An ask that fails does not stop: behind it, as the last of MaxSteps, there is no further instruction.
func TestFailedAskAsTheLastOfMaxSteps(t *testing.T) {
	for _, extra := range []int{-1, 0} {
		list := busy(code{send(1), send(2), send(3), send(4)}, api.MaxSteps-5+extra)
		list = append(list, ask(5, 9, len(list)+1), wait(3))
		d := begin(t, list...)
		d.trigger(0, 1)
		full := []api.Message{msg(0, 1, 1, 1), msg(0, 1, 2, 2), msg(0, 1, 3, 3), msg(0, 1, 4, 4)}
		if extra < 0 {
			d.shows(0, []api.Run{run(1, 0, 4, 3, 0)}, full...)
		} else {
			d.shows(0, nil, full...)
		}
	}
}

// The instructions are counted anew behind each stop, be the run answered or not, and the one that stopped counts no more.
func TestStepsAreCountedFromTheLastStop(t *testing.T) {
	for _, extra := range []int{0, 1} {
		for _, stop := range []api.Instr{wait(2), ask(0, 2, 0), hold(0, 9, 0)} {
			for _, answer := range []bool{false, true} {
				if answer && stop.Op == api.Wait {
					continue
				}
				list := busy(nil, api.MaxSteps-1)
				if stop.Op != api.Wait {
					stop.C = len(list) + 1
				}
				list = append(list, stop)
				list = append(busy(list, api.MaxSteps-1+extra), wait(5))
				d := begin(t, list...)
				d.trigger(0, 1)
				until := d.h.Show().Runs[0].Until
				if answer {
					d.drain(msg(0, 1, 1, 0))
					d.ack(1, 1, api.OK)
				} else {
					d.tick(until)
				}
				state := d.h.Show()
				if (len(state.Runs) == 1) != (extra == 0) || extra == 0 && state.Runs[0].Until != state.Now+5 {
					t.Errorf("P7 to P9: behind %v, answered %v, Wait as the %d-th instruction: %v", stop, answer, api.MaxSteps+extra, state)
				}
			}
		}
	}
}

// Many stops, one behind the other, make no end: only instructions without a stop are counted.
func TestRunMayGoOnForEver(t *testing.T) {
	d := begin(t, send(3), wait(1), jump(0))
	d.trigger(0, 1)
	for i := 0; i < 30; i++ {
		d.tick(999)
	}
	d.shows(29970, []api.Run{run(1, 0, 29971, 29971, 0)}, msg(0, 1, 29971, 3))
}

func TestDocumentsExample9(t *testing.T) {
	d := begin(t, api.Instr{Op: 4, A: 0, B: 2, C: 0}, api.Instr{Op: 1, A: 3}, api.Instr{Op: 7, A: 0, B: 0, C: 1}, api.Instr{Op: 2, A: 5})
	d.trigger(0, 1)
	d.shows(0, []api.Run{run(1, 0, 2, 5, 0)}, msg(0, 1, 2, 3))
	d.tick(5)
	d.shows(5, nil, msg(0, 1, 2, 3))
	d = begin(t, api.Instr{Op: 8})
	d.trigger(0, 1)
	d.shows(0, nil)
}
