package herald_test

import (
	"testing"

	"herald/api"
)

func TestShowTellsRunsByNumberAndQueuesByDevice(t *testing.T) {
	d := begin(t, send(4), send(2), wait(5))
	d.trigger(2, 1)
	d.trigger(0, 2)
	d.trigger(1, 3)
	d.trigger(0, 4)
	d.shows(0,
		[]api.Run{run(1, 2, 2, 5, 0), run(2, 0, 2, 5, 0), run(3, 1, 2, 5, 0), run(4, 0, 2, 5, 0)},
		msg(0, 2, 1, 4), msg(0, 2, 2, 2), msg(0, 4, 1, 4), msg(0, 4, 2, 2), msg(1, 3, 1, 4), msg(1, 3, 2, 2), msg(2, 1, 1, 4), msg(2, 1, 2, 2))
	d.cancel(2, api.OK)
	d.tick(3)
	d.trigger(2, 5)
	d.shows(3,
		[]api.Run{run(1, 2, 2, 5, 0), run(3, 1, 2, 5, 0), run(4, 0, 2, 5, 0), run(5, 2, 2, 8, 0)},
		msg(0, 4, 1, 4), msg(0, 4, 2, 2), msg(1, 3, 1, 4), msg(1, 3, 2, 2), msg(2, 1, 1, 4), msg(2, 1, 2, 2), msg(2, 5, 1, 4), msg(2, 5, 2, 2))
}

func TestShowAtTheMost(t *testing.T) {
	d := begin(t, send(0), send(1), send(2), send(3), send(4), wait(9))
	var runs []api.Run
	var queue []api.Message
	for id := 1; id <= api.Devices; id++ {
		d.trigger(id-1, id)
		runs = append(runs, run(id, id-1, 4, 9, 0))
		queue = append(queue, msg(id-1, id, 1, 0), msg(id-1, id, 2, 1), msg(id-1, id, 3, 2), msg(id-1, id, 4, 3))
	}
	d.trigger(0, 4)
	d.trigger(2, 5)
	d.shows(0, append(runs, run(4, 0, 0, 9, 0), run(5, 2, 0, 9, 0)), queue...)
}

func TestTriggerNumbersAllRuns(t *testing.T) {
	d := begin(t) // each run ends at once
	for id := 1; id <= 20; id++ {
		d.trigger(id%api.Devices, id)
		d.shows(0, nil)
	}
	d.cancel(1, api.ErrRun)
	d = begin(t, wait(5))
	d.trigger(0, 1)
	d.trigger(0, 2)
	d.cancel(2, api.OK)
	d.trigger(0, 3) // the number of a run that has ended is not used again
	d.shows(0, []api.Run{run(1, 0, 0, 5, 0), run(3, 0, 0, 5, 0)})
}

func TestTriggerErrors(t *testing.T) {
	d := begin(t, wait(5))
	for _, device := range []int{-1 << 63, -1, api.Devices, api.Devices + 1, 1 << 32, 1<<63 - 1} {
		d.triggerFails(device, api.ErrDevice)
	}
	d.shows(0, nil)
	for id := 1; id <= api.MaxRuns; id++ {
		d.trigger(id%api.Devices, id) // what failed has not used a number
	}
	for device := 0; device < api.Devices; device++ {
		d.triggerFails(device, api.ErrRuns)
	}
	d.triggerFails(-1, api.ErrDevice)
	d.triggerFails(api.Devices, api.ErrDevice) // named ahead of ErrRuns
	d.tick(4)
	d.triggerFails(0, api.ErrRuns)
	d.cancel(2, api.OK)
	d.trigger(1, 6)
	d.triggerFails(0, api.ErrRuns)
	d.tick(1) // all but the sixth have ended
	d.trigger(1, 7)
	d.shows(5, []api.Run{run(6, 1, 0, 9, 0), run(7, 1, 0, 10, 0)})
}

func TestTriggerBeginsAtTheTime(t *testing.T) {
	d := begin(t, send(0), wait(7), ask(1, 3, 3), wait(1))
	d.tick(999)
	d.trigger(0, 1)
	d.shows(999, []api.Run{run(1, 0, 1, 1006, 0)}, msg(0, 1, 1, 0))
	d.tick(20) // it goes on at 1006, so it asks until 1009, waits until 1010, and ends
	d.shows(1019, nil, msg(0, 1, 1, 0))
}

func TestTickErrors(t *testing.T) {
	d := begin(t, wait(1), send(0), wait(2))
	d.trigger(0, 1)
	for _, n := range []int{-1 << 63, -999, -1, 0, api.MaxTick + 1, 1 << 32, 1<<63 - 1} {
		d.tickIs(n, api.ErrTime)
	}
	d.shows(0, []api.Run{run(1, 0, 0, 1, 0)})
	d.tick(1)
	d.tick(api.MaxTick)
	d.shows(1000, nil, msg(0, 1, 1, 0))
}

// late begins at a time shortly ahead of MaxTime.
func late(t *testing.T, list ...api.Instr) desk {
	t.Helper()
	d := begin(t, list...)
	for i := 0; i < (api.MaxTime-1)/api.MaxTick; i++ {
		d.tick(api.MaxTick)
	}
	d.shows(api.MaxTime-1, nil)
	return d
}

func TestTimeEndsAtMaxTime(t *testing.T) {
	d := late(t, ask(0, 1, 1), send(1), hold(2, 0, 3), set(1, 999), twice(1), hold(3, 1, 6))
	d.tickIs(2, api.ErrTime)
	d.tickIs(api.MaxTick, api.ErrTime)
	d.trigger(0, 1)
	d.tickIs(2, api.ErrTime)
	d.shows(api.MaxTime-1, []api.Run{run(1, 0, 1, api.MaxTime, 1)}, msg(0, 1, 1, 0))
	d.tick(1)
	d.shows(api.MaxTime, []api.Run{run(1, 0, 3, api.MaxTime+1, 3)}, msg(0, 1, 2, 1), msg(0, 1, 3, 2))
	for _, n := range []int{-1, 0, 1, 999, 1000} {
		d.tickIs(n, api.ErrTime)
	}
	// no time goes by any more, but all else goes on
	d.drain(msg(0, 1, 2, 1))
	d.drain(msg(0, 1, 3, 2))
	d.ack(1, 3, api.OK)
	d.shows(api.MaxTime, []api.Run{run(1, 0, 4, api.MaxTime+1998, 4)}, msg(0, 1, 4, 3))
	d.cancel(1, api.OK)
	d.trigger(1, 2)
	d.shows(api.MaxTime, []api.Run{run(2, 1, 1, api.MaxTime+1, 1)}, msg(1, 2, 1, 0))
}

func TestTickGoesByTimesThenNumbers(t *testing.T) {
	d := begin(t, wait(3), send(0), wait(2), send(1))
	d.trigger(0, 1)
	d.tick(2)
	d.trigger(0, 2)
	d.trigger(0, 3)
	d.tick(9)
	// at 3 a of 1; at 5 b of 1, because its number is less, then a of 2 and of 3; at 7 the queue is full
	d.shows(11, nil, msg(0, 1, 1, 0), msg(0, 1, 2, 1), msg(0, 2, 1, 0), msg(0, 3, 1, 0))
}

// A run of a greater number goes first, if its time is less, though it began later.
func TestTickGoesByTimesAheadOfNumbers(t *testing.T) {
	d := begin(t, ask(0, 9, 2), wait(2), send(1), wait(9))
	d.trigger(0, 1)
	d.trigger(0, 2)
	d.drain(msg(0, 1, 1, 0))
	d.drain(msg(0, 2, 1, 0))
	d.tick(1)
	d.ack(2, 1, api.OK) // run 2 is stopped until 3 now, run 1 until 9
	d.shows(1, []api.Run{run(1, 0, 1, 9, 1), run(2, 0, 1, 3, 0)})
	d.tick(8)
	d.shows(9, []api.Run{run(1, 0, 2, 18, 0), run(2, 0, 2, 12, 0)}, msg(0, 2, 2, 1), msg(0, 1, 2, 1))
}

// One run may go on several times within a Tick, between those of others.
func TestTickLetsARunGoOnAgain(t *testing.T) {
	d := begin(t, send(0), wait(2), send(1), wait(2), send(2), wait(2), send(3))
	d.trigger(0, 1)
	d.tick(1)
	d.trigger(0, 2)
	d.drain(msg(0, 1, 1, 0))
	d.drain(msg(0, 2, 1, 0))
	d.tick(4)
	d.shows(5, []api.Run{run(1, 0, 3, 6, 0), run(2, 0, 3, 7, 0)}, msg(0, 1, 2, 1), msg(0, 2, 2, 1), msg(0, 1, 3, 2), msg(0, 2, 3, 2))
}

// All runs that are due at one time go on, by their numbers, whatever their devices are; and one tick earlier none does.
func TestTickOfSeveralRunsDueAtOnce(t *testing.T) {
	d := begin(t, wait(4), send(6), wait(1))
	for id := 1; id <= 5; id++ {
		d.trigger(0, id)
	}
	d.tick(3)
	d.shows(3, []api.Run{run(1, 0, 0, 4, 0), run(2, 0, 0, 4, 0), run(3, 0, 0, 4, 0), run(4, 0, 0, 4, 0), run(5, 0, 0, 4, 0)})
	d.tick(1) // four messages find room; that of the fifth run fails
	d.shows(4,
		[]api.Run{run(1, 0, 1, 5, 0), run(2, 0, 1, 5, 0), run(3, 0, 1, 5, 0), run(4, 0, 1, 5, 0), run(5, 0, 0, 5, 0)},
		msg(0, 1, 1, 6), msg(0, 2, 1, 6), msg(0, 3, 1, 6), msg(0, 4, 1, 6))
	d.tick(1)
	d.shows(5, nil, msg(0, 1, 1, 6), msg(0, 2, 1, 6), msg(0, 3, 1, 6), msg(0, 4, 1, 6))
}

// What a run takes out at a time makes room for one of a greater number at the same time, and not for one of a less number.
func TestTickOrderTellsWhoFindsRoom(t *testing.T) {
	d := begin(t, ask(0, 4, 1), wait(4), send(1), wait(9))
	for id := 1; id <= 5; id++ {
		d.trigger(0, id) // the fifth finds no room, and waits at once
	}
	d.tick(4) // the four messages are taken out, then the fifth run sends
	d.shows(4,
		[]api.Run{run(1, 0, 1, 8, 0), run(2, 0, 1, 8, 0), run(3, 0, 1, 8, 0), run(4, 0, 1, 8, 0), run(5, 0, 1, 13, 0)},
		msg(0, 5, 1, 1))
	d = begin(t, ask(0, 4, 2), wait(4), send(1), wait(9))
	d.trigger(0, 1)
	d.drain(msg(0, 1, 1, 0))
	d.ack(1, 1, api.OK)
	for id := 2; id <= 5; id++ {
		d.trigger(0, id)
	}
	d.tick(4) // the first run sends while the queue is full, the others when their own messages have been taken out
	d.shows(4,
		[]api.Run{run(1, 0, 1, 13, 0), run(2, 0, 2, 13, 0), run(3, 0, 2, 13, 0), run(4, 0, 2, 13, 0), run(5, 0, 2, 13, 0)},
		msg(0, 2, 2, 1), msg(0, 3, 2, 1), msg(0, 4, 2, 1), msg(0, 5, 2, 1))
}

func TestOneTickOrMany(t *testing.T) {
	list := code{send(0), wait(3), ask(1, 4, 3), hold(2, 0, 0), send(3), wait(6), jump(0)}
	whole := begin(t, list...)
	parts := begin(t, list...)
	for id := 1; id <= 5; id++ {
		whole.trigger(id%2, id)
		parts.trigger(id%2, id)
		whole.tick(2)
		parts.tick(2)
	}
	whole.tick(999)
	for i := 0; i < 999; i++ {
		parts.tick(1)
	}
	a, b := whole.h.Show(), parts.h.Show()
	if !sameState(a, b) {
		t.Errorf("P8: Tick(999) makes %v, and 999 times Tick(1) %v", a, b)
	}
}

func TestAckErrors(t *testing.T) {
	d := begin(t, answers(10)...)
	d.ack(1, 1, api.ErrRun)
	d.ack(0, 0, api.ErrRun)
	d.trigger(1, 1)
	for _, id := range []int{-1 << 63, -1, 0, 2, 1<<63 - 1} {
		for _, number := range []int{-1 << 63, -1, 0, 1, 2, 1<<63 - 1} {
			d.ack(id, number, api.ErrRun)
		}
	}
	for _, number := range []int{-1 << 63, -1, 0, 2, 1<<63 - 1} {
		d.ack(1, number, api.ErrWait) // though a message is in the queue: ErrWait is named first
	}
	d.ack(1, 1, api.ErrQueue)
	d.shows(0, []api.Run{run(1, 1, 1, 10, 1)}, msg(1, 1, 1, 0))
	d.drain(msg(1, 1, 1, 0))
	for _, number := range []int{-1 << 63, -1, 0, 2, 1<<63 - 1} {
		d.ack(1, number, api.ErrWait)
	}
	d.ack(1, 1, api.OK)
	for _, number := range []int{-1, 0, 1, 2} {
		d.ack(1, number, api.ErrWait) // it waits for no answer now
	}
	d.tick(1)
	d.ack(1, 1, api.ErrRun) // it has ended
}

// The message must be in the run's own queue, of the run's own number: others of the same number count for nothing.
func TestAckLooksAtItsOwnMessage(t *testing.T) {
	d := begin(t, answers(10)...)
	d.trigger(1, 1)
	d.drain(msg(1, 1, 1, 0))
	d.trigger(1, 2)
	d.trigger(0, 3)
	d.ack(1, 1, api.OK)
	d.shows(0, []api.Run{run(1, 1, 2, 1, 0), run(2, 1, 1, 10, 1), run(3, 0, 1, 10, 1)}, msg(0, 3, 1, 0), msg(1, 2, 1, 0), msg(1, 1, 2, 1))
	// another message of the run, in the queue, does not hinder
	e := begin(t, ask(0, 5, 3), send(1), ask(2, 9, 3), wait(4))
	e.trigger(0, 1)
	e.drain(msg(0, 1, 1, 0))
	e.ack(1, 1, api.OK)
	e.drain(msg(0, 1, 2, 1))
	e.ack(1, 3, api.ErrQueue)
	e.drain(msg(0, 1, 3, 2))
	e.ack(1, 2, api.ErrWait)
	e.ack(1, 3, api.OK)
	e.shows(0, []api.Run{run(1, 0, 3, 4, 0)})
}

func TestCancelTakesItsMessagesOut(t *testing.T) {
	d := begin(t, send(0), send(1), wait(5))
	d.trigger(0, 1)
	d.trigger(0, 2)
	d.trigger(1, 3)
	d.drain(msg(0, 1, 1, 0))
	for _, id := range []int{-1 << 63, -1, 0, 4, 1<<63 - 1} {
		d.cancel(id, api.ErrRun)
	}
	d.cancel(2, api.OK)
	d.shows(0, []api.Run{run(1, 0, 2, 5, 0), run(3, 1, 2, 5, 0)}, msg(0, 1, 2, 1), msg(1, 3, 1, 0), msg(1, 3, 2, 1))
	d.cancel(2, api.ErrRun)
	d.ack(2, 1, api.ErrRun)
	d.tick(5)
	d.cancel(1, api.ErrRun) // a run that has ended by itself leaves its messages
	d.shows(5, nil, msg(0, 1, 2, 1), msg(1, 3, 1, 0), msg(1, 3, 2, 1))
}

func TestCancelledRunDoesNotGoOn(t *testing.T) {
	d := begin(t, ask(0, 5, 1), send(1), wait(5))
	d.trigger(2, 1)
	d.trigger(2, 2)
	d.cancel(1, api.OK)
	d.shows(0, []api.Run{run(2, 2, 1, 5, 1)}, msg(2, 2, 1, 0))
	d.tick(6)
	d.shows(6, []api.Run{run(2, 2, 2, 10, 0)}, msg(2, 2, 2, 1))
}

func TestDrainTakesTheFirst(t *testing.T) {
	d := begin(t, send(3), send(1), send(2), wait(5))
	d.trigger(1, 1)
	d.trigger(1, 2) // finds room for one
	d.trigger(2, 3)
	d.drain(msg(1, 1, 1, 3))
	d.drain(msg(1, 1, 2, 1))
	d.shows(0, []api.Run{run(1, 1, 3, 5, 0), run(2, 1, 1, 5, 0), run(3, 2, 3, 5, 0)}, msg(1, 1, 3, 2), msg(1, 2, 1, 3), msg(2, 3, 1, 3), msg(2, 3, 2, 1), msg(2, 3, 3, 2))
	d.drain(msg(1, 1, 3, 2))
	d.drain(msg(1, 2, 1, 3))
	d.drainFails(1, api.ErrEmpty)
	d.drainFails(0, api.ErrEmpty)
	d.drain(msg(2, 3, 1, 3))
	d.tick(9) // messages stay behind their runs' ends
	d.shows(9, nil, msg(2, 3, 2, 1), msg(2, 3, 3, 2))
	d.drain(msg(2, 3, 2, 1))
	d.drain(msg(2, 3, 3, 2))
	d.drainFails(2, api.ErrEmpty)
}

func TestDrainErrors(t *testing.T) {
	d := begin(t, send(0), wait(5))
	for _, device := range []int{-1 << 63, -1, api.Devices, api.Devices + 1, 1 << 32, 1<<63 - 1} {
		d.drainFails(device, api.ErrDevice)
	}
	for device := 0; device < api.Devices; device++ {
		d.drainFails(device, api.ErrEmpty)
	}
	d.trigger(1, 1)
	d.drainFails(0, api.ErrEmpty)
	d.drainFails(2, api.ErrEmpty)
	d.drainFails(3, api.ErrDevice)
	d.shows(0, []api.Run{run(1, 1, 1, 5, 0)}, msg(1, 1, 1, 0))
}

func TestDocumentsExamples5To8ByCode(t *testing.T) {
	// send a send b send a
	d := begin(t, send(0), send(1), send(0))
	d.trigger(0, 1)
	d.shows(0, nil, msg(0, 1, 3, 0), msg(0, 1, 2, 1))
	// send a send b send c send d send e ask f 5 { } else { wait 7 }
	d = begin(t, send(0), send(1), send(2), send(3), send(4), ask(5, 5, 7), end(), wait(7))
	d.trigger(0, 1)
	d.shows(0, []api.Run{run(1, 0, 4, 7, 0)}, msg(0, 1, 1, 0), msg(0, 1, 2, 1), msg(0, 1, 3, 2), msg(0, 1, 4, 3))
	// ask a 10 { send b wait 1 } else { send c wait 1 }
	for _, ticks := range []int{9, 10} {
		d = begin(t, answers(10)...)
		d.trigger(1, 1)
		d.shows(0, []api.Run{run(1, 1, 1, 10, 1)}, msg(1, 1, 1, 0))
		d.ack(1, 1, api.ErrQueue)
		d.drain(msg(1, 1, 1, 0))
		d.ack(1, 2, api.ErrWait)
		d.ack(2, 1, api.ErrRun)
		d.tick(ticks)
		if ticks == 9 {
			d.ack(1, 1, api.OK)
			d.shows(9, []api.Run{run(1, 1, 2, 10, 0)}, msg(1, 1, 2, 1))
		} else {
			d.ack(1, 1, api.ErrWait)
			d.shows(10, []api.Run{run(1, 1, 2, 11, 0)}, msg(1, 1, 2, 2))
		}
	}
	// retry 3 a 4 { } else { send b }: TestHoldUnanswered tells its times
	d = begin(t, set(0, 3), set(1, 4), hold(0, 1, 6), twice(1), loop(0, 2), send(1))
	d.trigger(0, 1)
	d.tick(999)
	d.shows(999, nil, msg(0, 1, 4, 1))
}
