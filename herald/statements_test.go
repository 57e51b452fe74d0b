package herald_test

import (
	"slices"
	"strings"
	"testing"

	"herald/api"
)

func TestSendOfTexts(t *testing.T) {
	d := beginText(t, "send a send b send a")
	d.trigger(0, 1)
	d.shows(0, nil, msg(0, 1, 3, 0), msg(0, 1, 2, 1))
	d = beginText(t, "send h send g send f send e send d send c send g wait 5 send b")
	d.trigger(2, 1)
	d.shows(0, []api.Run{run(1, 2, 5, 5, 0)}, msg(2, 1, 1, 7), msg(2, 1, 5, 6), msg(2, 1, 3, 5), msg(2, 1, 4, 4))
	d.drain(msg(2, 1, 1, 7))
	d.tick(5)
	d.shows(5, nil, msg(2, 1, 5, 6), msg(2, 1, 3, 5), msg(2, 1, 4, 4), msg(2, 1, 6, 1))
}

func TestEachKeyOfTexts(t *testing.T) {
	for key := 0; key < api.Keys; key++ {
		letter := string(rune('a' + key))
		for _, statement := range []string{"send " + letter + " wait 5", "ask " + letter + " 5 { }", "retry 2 " + letter + " 5 { }"} {
			d := beginText(t, statement)
			d.trigger(1, 1)
			d.drain(msg(1, 1, 1, key))
		}
	}
}

func TestWaitAndStopOfTexts(t *testing.T) {
	d := beginText(t, "wait 1 wait 999 wait 0007 stop wait 5 send a")
	d.trigger(0, 1)
	for _, until := range []int{1, 1000, 1007} {
		d.shows(d.h.Show().Now, []api.Run{run(1, 0, 0, until, 0)})
		d.tick(until - d.h.Show().Now)
	}
	d.shows(1007, nil)
	for _, text := range []string{"", "stop", "stop send a", "repeat 9 { stop send a } send b", "repeat 1 { repeat 9 { repeat 2 { stop } } } wait 5", "repeat 9 { repeat 7 { } }"} {
		d := beginText(t, text)
		d.trigger(0, 1)
		d.shows(0, nil)
	}
}

func TestAskOfTexts(t *testing.T) {
	text := "ask a 10 { send b wait 1 } else { send c wait 1 } send d wait 3"
	d := beginText(t, text)
	d.trigger(1, 1)
	d.shows(0, []api.Run{run(1, 1, 1, 10, 1)}, msg(1, 1, 1, 0))
	d.ack(1, 1, api.ErrQueue)
	d.drain(msg(1, 1, 1, 0))
	d.ack(1, 2, api.ErrWait)
	d.ack(2, 1, api.ErrRun)
	d.tick(9)
	d.ack(1, 1, api.OK)
	d.shows(9, []api.Run{run(1, 1, 2, 10, 0)}, msg(1, 1, 2, 1))
	d.tick(1)
	d.shows(10, []api.Run{run(1, 1, 3, 13, 0)}, msg(1, 1, 2, 1), msg(1, 1, 3, 3))
	d = beginText(t, text)
	d.trigger(1, 1)
	d.drain(msg(1, 1, 1, 0))
	d.tick(10)
	d.ack(1, 1, api.ErrWait)
	d.shows(10, []api.Run{run(1, 1, 2, 11, 0)}, msg(1, 1, 2, 2))
	d.tick(1)
	d.shows(11, []api.Run{run(1, 1, 3, 14, 0)}, msg(1, 1, 2, 2), msg(1, 1, 3, 3))
	d = beginText(t, "ask a 10 { send b } send c wait 5") // not drained: it is taken out; and there is no else
	d.trigger(0, 1)
	d.tick(10)
	d.shows(10, []api.Run{run(1, 0, 2, 15, 0)}, msg(0, 1, 2, 2))
}

func TestAskOfTextsThatFails(t *testing.T) {
	d := beginText(t, "send a send b send c send d send e ask f 5 { } else { wait 7 }")
	d.trigger(0, 1)
	full := []api.Message{msg(0, 1, 1, 0), msg(0, 1, 2, 1), msg(0, 1, 3, 2), msg(0, 1, 4, 3)}
	d.shows(0, []api.Run{run(1, 0, 4, 7, 0)}, full...)
	d.tick(7)
	d.shows(7, nil, full...)
	// without else it goes on behind the ask; one whose key is in the queue already does not fail
	d = beginText(t, "send a send b send c send d ask e 5 { stop } ask b 3 { } wait 9")
	d.trigger(0, 1)
	d.shows(0, []api.Run{run(1, 0, 5, 3, 5)}, msg(0, 1, 1, 0), msg(0, 1, 5, 1), msg(0, 1, 3, 2), msg(0, 1, 4, 3))
	d.tick(3)
	d.shows(3, []api.Run{run(1, 0, 5, 12, 0)}, msg(0, 1, 1, 0), msg(0, 1, 3, 2), msg(0, 1, 4, 3))
}

func TestRetryOfTextsUnanswered(t *testing.T) {
	d := beginText(t, "retry 3 a 4 { } else { send b }")
	d.trigger(0, 1)
	number := 1
	for _, until := range []int{4, 12, 28} {
		d.shows(d.h.Show().Now, []api.Run{run(1, 0, number, until, number)}, msg(0, 1, number, 0))
		d.tick(until - d.h.Show().Now)
		number++
	}
	d.shows(28, nil, msg(0, 1, 4, 1))
}

// The pauses at the most: each twice the one ahead of it, 63 times the first in all.
func TestRetryOfTextsAtTheMost(t *testing.T) {
	d := beginText(t, "retry 6 h 999 { send a } else { send b wait 2 }")
	d.trigger(0, 1)
	now := 0
	for try := 1; try <= api.MaxTries; try++ {
		pause := api.MaxWait << (try - 1)
		d.shows(now, []api.Run{run(1, 0, try, now+pause, try)}, msg(0, 1, try, 7))
		for gone := 0; gone < pause; gone += api.MaxTick {
			d.tick(api.MaxTick)
		}
		now += pause
	}
	d.shows(63*999, []api.Run{run(1, 0, 7, 63*999+2, 0)}, msg(0, 1, 7, 1))
}

// Each try can be answered, the first ones and the last, up to one tick ahead of its end.
func TestRetryOfTextsAnswered(t *testing.T) {
	for try := 1; try <= api.MaxTries; try++ {
		d := beginText(t, "retry 6 a 4 { send b wait 1 } else { send c } send d wait 1")
		d.trigger(0, 1)
		now := 0
		for i := 1; i < try; i++ {
			d.drain(msg(0, 1, i, 0))
			d.tick(4 << (i - 1))
			now += 4 << (i - 1)
			d.ack(1, i, api.ErrWait) // too late
		}
		d.ack(1, try, api.ErrQueue)
		d.drain(msg(0, 1, try, 0))
		d.tick(4<<(try-1) - 1)
		now += 4<<(try-1) - 1
		d.ack(1, try, api.OK)
		d.shows(now, []api.Run{run(1, 0, try+1, now+1, 0)}, msg(0, 1, try+1, 1))
		d.tick(1)
		d.shows(now+1, []api.Run{run(1, 0, try+2, now+2, 0)}, msg(0, 1, try+1, 1), msg(0, 1, try+2, 3))
	}
}

// A try that finds no room takes its time, for no answer; the next one may find room.
func TestRetryOfTextsThatFails(t *testing.T) {
	d := beginText(t, "send a send b send c send d retry 3 e 2 { send g } else { send f }")
	d.trigger(0, 1)
	full := []api.Message{msg(0, 1, 1, 0), msg(0, 1, 2, 1), msg(0, 1, 3, 2), msg(0, 1, 4, 3)}
	d.shows(0, []api.Run{run(1, 0, 4, 2, 0)}, full...)
	d.ack(1, 0, api.ErrWait)
	d.ack(1, 5, api.ErrWait)
	d.drain(full[0])
	d.tick(1)
	d.shows(1, []api.Run{run(1, 0, 4, 2, 0)}, full[1:]...)
	d.tick(1)
	d.shows(2, []api.Run{run(1, 0, 5, 6, 5)}, full[1], full[2], full[3], msg(0, 1, 5, 4))
	for _, message := range []api.Message{full[1], full[2], full[3], msg(0, 1, 5, 4)} {
		d.drain(message)
	}
	d.ack(1, 5, api.OK)
	d.shows(2, nil, msg(0, 1, 6, 6))
	d = beginText(t, "send a send b send c send d retry 3 e 2 { } else { send f wait 1 }")
	d.trigger(0, 1)
	for _, until := range []int{2, 6, 14, 15} {
		d.shows(d.h.Show().Now, []api.Run{run(1, 0, 4, until, 0)}, full...)
		d.tick(until - d.h.Show().Now)
	}
	d.shows(15, nil, full...)
}

// stopsOf tells until when the only run stops each time, if nobody drains or answers, and how many messages it had sent then.
func stopsOf(t *testing.T, text string) ([]int, []int) {
	t.Helper()
	d := beginText(t, text)
	d.trigger(0, 1)
	var untils, sent []int
	for state := d.h.Show(); len(state.Runs) > 0; state = d.h.Show() {
		untils = append(untils, state.Runs[0].Until)
		sent = append(sent, state.Runs[0].Sent)
		d.tick(state.Runs[0].Until - state.Now)
	}
	return untils, sent
}

func TestRepeatOfTexts(t *testing.T) {
	for _, c := range []struct {
		text         string
		untils, sent []int
	}{
		{"repeat 1 { send a wait 2 } send b wait 1", []int{2, 3}, []int{1, 2}},
		{"repeat 3 { send a wait 2 }", []int{2, 4, 6}, []int{1, 2, 3}},
		{"repeat 9 { wait 1 }", []int{1, 2, 3, 4, 5, 6, 7, 8, 9}, make([]int, 9)},
		{"repeat 2 { send a } wait 1 repeat 3 { send b } wait 1", []int{1, 2}, []int{2, 5}},
		{"repeat 2 { repeat 3 { send a } wait 1 send b }", []int{1, 2}, []int{3, 7}},
		{"repeat 2 { repeat 1 { repeat 2 { repeat 3 { send a } wait 5 } } wait 1 }", []int{5, 10, 11, 16, 21, 22}, []int{3, 6, 6, 9, 12, 12}},
		{"repeat 4 { repeat 4 { repeat 4 { repeat 1 { send a } } } } wait 1", []int{1}, []int{64}},
		{"repeat 2 { repeat 2 { repeat 2 { retry 2 a 1 { } } } }", []int{1, 3, 4, 6, 7, 9, 10, 12, 13, 15, 16, 18, 19, 21, 22, 24}, []int{1, 2, 3, 4, 5, 6, 7, 8, 9, 10, 11, 12, 13, 14, 15, 16}},
		{"repeat 2 { retry 2 a 1 { } else { repeat 2 { retry 2 b 3 { } } wait 1 } }", []int{1, 3, 6, 12, 15, 21, 22, 23, 25, 28, 34, 37, 43, 44}, []int{1, 2, 3, 4, 5, 6, 6, 7, 8, 9, 10, 11, 12, 12}},
		{"repeat 2 { ask a 1 { } else { repeat 2 { ask b 2 { } else { wait 3 } } } }", []int{1, 3, 6, 8, 11, 12, 14, 17, 19, 22}, []int{1, 2, 2, 3, 3, 4, 5, 5, 6, 6}},
		{"repeat 3 { repeat 2 { } wait 1 repeat 9 { } }", []int{1, 2, 3}, []int{0, 0, 0}},
	} {
		untils, sent := stopsOf(t, c.text)
		if !slices.Equal(untils, c.untils) || !slices.Equal(sent, c.sent) {
			t.Errorf("P12: a run of %q stops until %v, and has sent %v, want %v, %v", c.text, untils, sent, c.untils, c.sent)
		}
	}
}

// Blocks of a retry within one another have tries of their own, though the one around is not over by its text.
func TestRetryWithinRetry(t *testing.T) {
	d := beginText(t, "repeat 2 { retry 3 a 5 { retry 2 b 1 { } else { send c } wait 1 } else { stop } }")
	d.trigger(0, 1)
	now, number := 0, 1
	for round := 0; round < 2; round++ {
		d.drain(msg(0, 1, number, 0))
		d.ack(1, number, api.OK) // the first of three tries
		d.shows(now, []api.Run{run(1, 0, number+1, now+1, number+1)}, msg(0, 1, number+1, 1))
		d.tick(1)
		d.shows(now+1, []api.Run{run(1, 0, number+2, now+3, number+2)}, msg(0, 1, number+2, 1))
		d.tick(2)
		d.drain(msg(0, 1, number+3, 2))
		d.shows(now+3, []api.Run{run(1, 0, number+3, now+4, 0)})
		d.tick(1)
		now, number = now+4, number+4
	}
	d.shows(8, nil)
}

// Five runs of one text, on three devices, know nothing of one another's rounds and tries.
func TestRunsOfATextAtOnce(t *testing.T) {
	d := beginText(t, "repeat 3 { retry 2 a 2 { wait 5 } }")
	for id := 1; id <= api.MaxRuns; id++ {
		d.trigger(id%api.Devices, id)
		d.tick(1)
	}
	// Each run asks at 0, 2, 6, 8, 12 and 14, reckoned from its trigger, and ends at 18.
	d.shows(5, []api.Run{run(1, 1, 2, 6, 2), run(2, 2, 2, 7, 2), run(3, 0, 2, 8, 2), run(4, 1, 2, 9, 2), run(5, 2, 1, 6, 1)},
		msg(0, 3, 2, 0), msg(1, 1, 2, 0), msg(1, 4, 2, 0), msg(2, 2, 2, 0), msg(2, 5, 1, 0))
	d.tick(12)
	d.shows(17, []api.Run{run(1, 1, 6, 18, 6), run(2, 2, 6, 19, 6), run(3, 0, 6, 20, 6), run(4, 1, 6, 21, 6), run(5, 2, 5, 18, 5)},
		msg(0, 3, 6, 0), msg(1, 1, 6, 0), msg(1, 4, 6, 0), msg(2, 2, 6, 0), msg(2, 5, 5, 0))
	d.tick(5)
	d.shows(22, nil)
}

// The texts that need the most instructions without a stop come to their ends.
func TestHeavyTexts(t *testing.T) {
	for _, c := range []struct{ head, again, tail string }{
		{"repeat 8{repeat 8{", "repeat 1{}", "}}"},
		{"repeat 8{", "repeat 8{}", "}"},
		{"repeat 4{repeat 4{repeat 4{", "repeat 1{}", "}}}"},
		{"repeat 8{repeat 8{", "repeat 1{repeat 1{}}", "}}"},
		{"repeat 8{repeat 8{", "send a ", "}}"},
		{"send a send b send c send d repeat 8{repeat 8{", "ask e 9{}", "}}"},
		{"send a send b send c send d repeat 8{repeat 8{", "ask e 9{}else{repeat 1{}}", "}}"},
		{"retry 1 a 1{}else{repeat 8{repeat 8{", "repeat 1{}", "}}}"},
		{"ask a 1{}else{repeat 8{repeat 8{", "repeat 1{}", "}}}"},
		{"wait 1 repeat 9{repeat 7{", "repeat 1{send a}", "}}"},
	} {
		tail := c.tail + "send a wait 9"
		text := c.head
		for len(text)+len(c.again)+len(tail) <= api.MaxText {
			text += c.again
		}
		text += tail
		h, m := beginText(t, text).h, modelOf(text)
		for _, made := range []call{{'T', 0, 0}, {'K', 1, 0}, {'T', 1, 0}, {'K', 1, 0}} {
			got, want := made.ofHerald(h), made.ofModel(m)
			if got != want || !sameState(h.Show(), m.show()) {
				t.Errorf("P12: text %q: %s and %v, want %s and %v", text, got, h.Show(), want, m.show())
			}
		}
		if runs := h.Show().Runs; len(runs) != 2 || runs[0].Until < 9 {
			t.Errorf("P12: text %q does not come to its end: %v", text, h.Show())
		}
	}
}

// The texts that need the most instructions have sound code too.
func TestLongTexts(t *testing.T) {
	for _, statement := range []string{"retry 1 a 1{}", "retry 1 a 1{}else{}", "ask a 1{}", "ask a 1{}else{}", "repeat 1{}", "stop ", "send a ", "wait 1 ", "repeat 1{retry 1 a 1{}}"} {
		text := strings.Repeat(statement, api.MaxText/len(statement))
		h, m := beginText(t, text).h, modelOf(text)
		for _, made := range []call{{'T', 0, 0}, {'K', 1, 0}, {'K', 999, 0}} {
			got, want := made.ofHerald(h), made.ofModel(m)
			if got != want || !sameState(h.Show(), m.show()) {
				t.Errorf("P12: text %q: %s and %v, want %s and %v", text, got, h.Show(), want, m.show())
			}
		}
	}
}
