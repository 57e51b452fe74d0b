package herald_test

import (
	"fmt"
	"math/rand"
	"slices"
	"strings"
	"testing"

	"herald/api"
	"herald/herald"
)

var strangeNumbers = []int{-1 << 63, -1<<63 + 1, -1 << 32, -1000, -2, -1, 0, 1, 2, 3, 4, 5, 6, 7, 998, 999, 1000, 1001, 1 << 31, 1 << 32, 1<<63 - 2, 1<<63 - 1}

// Every call of every number ends, none panics, and one that is not OK leaves the herald as it was.
func TestStrangeNumbers(t *testing.T) {
	for _, list := range []code{nil, {jump(0)}, {send(0), ask(1, 5, 0)}, {send(0), send(1), wait(9)}, tries, answers(10)} {
		d := begin(t, list...)
		for _, first := range strangeNumbers {
			for _, second := range strangeNumbers {
				for _, name := range []byte("TKACD") {
					before := d.h.Show()
					answer := call{name, first, second}.ofHerald(d.h)
					after := d.h.Show()
					if !isOK(answer) && (!sameState(before, after) || !isBare(answer)) {
						t.Fatalf("P1: %c(%d, %d) = %s, and %v became %v", name, first, second, answer, before, after)
					}
				}
			}
		}
	}
}

// isOK tells whether a call's answer ends with OK.
func isOK(answer string) bool {
	return answer == "0" || strings.HasSuffix(answer, " 0")
}

// isBare tells whether nothing but noughts stands beside the error in a call's answer.
func isBare(answer string) bool {
	return !strings.Contains(answer, " ") || strings.HasPrefix(answer, "0 ") || strings.HasPrefix(answer, "{0 0 0 0} ")
}

// Two heralds are asked the same; one of them gets calls in between that are not OK. No answer is another for that.
func TestErrorsChangeNothing(t *testing.T) {
	chance := rand.New(rand.NewSource(6))
	for i := 0; i < 300; i++ {
		list := randomCode(chance)
		a, b := begin(t, list...), begin(t, list...)
		for j := 0; j < 60; j++ {
			c := randomCall(chance, a.h.Show())
			wrong := wrongCalls(a.h.Show())
			w := wrong[chance.Intn(len(wrong))]
			if answer := w.ofHerald(b.h); isOK(answer) {
				t.Fatalf("P7 to P9: code %v: %c(%d, %d) = %s", list, w.name, w.first, w.second, answer)
			}
			got, want := c.ofHerald(b.h), c.ofHerald(a.h)
			if got != want || !sameState(a.h.Show(), b.h.Show()) {
				t.Fatalf("P1: code %v: %c(%d, %d) = %s behind an error, %s without it", list, c.name, c.first, c.second, got, want)
			}
		}
	}
}

// wrongCalls are some that must not be OK, as things stand.
func wrongCalls(state api.State) []call {
	list := []call{{'T', 3, 0}, {'T', -1, 0}, {'K', 0, 0}, {'K', 1000, 0}, {'A', 0, 0}, {'A', 1000, 1}, {'C', 0, 0}, {'C', -1, 0}, {'D', 3, 0}, {'D', -1, 0}}
	if len(state.Runs) == api.MaxRuns {
		list = append(list, call{'T', 1, 0})
	}
	for _, r := range state.Runs {
		list = append(list, call{'A', r.Id, r.Number + 1}, call{'A', r.Id, 0})
	}
	for device := 0; device < api.Devices; device++ {
		if !slices.ContainsFunc(state.Queue, func(m api.Message) bool { return m.Device == device }) {
			list = append(list, call{'D', device, 0})
		}
	}
	return list
}

func TestNewKeepsAndChangesNothingOfItsCode(t *testing.T) {
	whole := code{{Op: 99, A: 1}, send(1), wait(3), send(2), wait(4), {Op: 55, B: 7}, {Op: 56, C: 8}}
	given := slices.Clone(whole)
	h, fault := herald.New(given[1:5]) // spare room ahead and behind
	if h == nil || fault != api.OK {
		t.Fatalf("P5: New: %d", fault)
	}
	d := desk{t, h}
	d.trigger(0, 1)
	d.tick(1)
	if !slices.Equal(given, whole) {
		t.Errorf("P2: the code became %v", given)
	}
	for i := range given {
		given[i] = api.Instr{Op: 99}
	}
	d.tick(2)
	d.shows(3, []api.Run{run(1, 0, 2, 7, 0)}, msg(0, 1, 1, 1), msg(0, 1, 2, 2))
	d.trigger(1, 2)
	d.shows(3, []api.Run{run(1, 0, 2, 7, 0), run(2, 1, 1, 6, 0)}, msg(0, 1, 1, 1), msg(0, 1, 2, 2), msg(1, 2, 1, 1))
	// code that is not sound is not changed either
	wrong := code{send(1), send(9), send(2)}
	herald.New(wrong[:2])
	if !slices.Equal(wrong, code{send(1), send(9), send(2)}) {
		t.Errorf("P2: the code became %v", wrong)
	}
}

// spoil writes into lists that came out, and into their spare room.
func spoil(state api.State) {
	runs := state.Runs[:cap(state.Runs)]
	for i := range runs {
		runs[i] = run(-9, -9, -9, -9, -9)
	}
	queue := state.Queue[:cap(state.Queue)]
	for i := range queue {
		queue[i] = msg(-9, -9, -9, -9)
	}
}

// What comes out is the caller's: writing into it changes neither the herald nor what came out sooner or comes out later.
func TestShownListsAreTheCallers(t *testing.T) {
	chance := rand.New(rand.NewSource(7))
	for i := 0; i < 300; i++ {
		list := randomCode(chance)
		a, b := begin(t, list...), begin(t, list...)
		var kept []api.State
		var told []string
		for j := 0; j < 40; j++ {
			c := randomCall(chance, b.h.Show())
			kept = append(kept, a.h.Show())
			told = append(told, fmt.Sprint(b.h.Show()))
			spoil(a.h.Show())
			got, want := c.ofHerald(a.h), c.ofHerald(b.h)
			spoil(a.h.Show())
			if got != want {
				t.Fatalf("P2: code %v: %c(%d, %d) = %s, but %s if nobody writes into what is shown", list, c.name, c.first, c.second, got, want)
			}
			state := a.h.Show()
			if !sameState(state, b.h.Show()) {
				t.Fatalf("P2: code %v: %v, but %v if nobody writes into what is shown", list, state, b.h.Show())
			}
		}
		for j := range kept {
			if fmt.Sprint(kept[j]) != told[j] {
				t.Fatalf("P2: code %v: what was shown as %s became %v", list, told[j], kept[j])
			}
		}
	}
}

// spoilCode writes into code that came out, and into its spare room.
func spoilCode(list code) {
	whole := list[:cap(list)]
	for i := range whole {
		whole[i] = api.Instr{Op: 99, A: -1, B: -1, C: -1}
	}
}

// Of one text there is one code, whatever is compiled in between and written into what came out; and that changes no code that came out sooner.
func TestCompiledCodeIsTheCallers(t *testing.T) {
	chance := rand.New(rand.NewSource(10))
	var texts []string
	var kept, copies []code
	for i := 0; i < 500; i++ {
		text := goodText(chance)
		spoilCode(compiled(t, text))
		texts = append(texts, text)
		kept = append(kept, compiled(t, text))
		copies = append(copies, slices.Clone(kept[i]))
		spoilCode(compiled(t, text))
		spoilCode(compiled(t, texts[chance.Intn(len(texts))]))
	}
	for i := len(texts) - 1; i >= 0; i-- {
		if !slices.Equal(kept[i], copies[i]) || !slices.Equal(compiled(t, texts[i]), copies[i]) {
			t.Fatalf("P2: the code of %q was %v, and became %v, and is %v", texts[i], copies[i], kept[i], compiled(t, texts[i]))
		}
		spoilCode(kept[i])
	}
}

func TestCompiledCodeIsNotKept(t *testing.T) {
	text := "send a wait 3 repeat 2 { send b wait 4 }"
	list := compiled(t, text)
	d := begin(t, list...)
	d.trigger(0, 1)
	spoilCode(list)
	d.tick(3)
	d.shows(3, []api.Run{run(1, 0, 2, 7, 0)}, msg(0, 1, 1, 0), msg(0, 1, 2, 1))
	d.trigger(1, 2)
	d.shows(3, []api.Run{run(1, 0, 2, 7, 0), run(2, 1, 1, 6, 0)}, msg(0, 1, 1, 0), msg(0, 1, 2, 1), msg(1, 2, 1, 0))
}

// Heralds know nothing of one another, even if they are of the same code.
func TestHeraldsStandAlone(t *testing.T) {
	list := code{send(0), send(1), wait(5), send(2), wait(5)}
	a, b := begin(t, list...), begin(t, list...)
	a.trigger(0, 1)
	b.shows(0, nil)
	b.trigger(1, 1)
	a.tick(5)
	b.drain(msg(1, 1, 1, 0))
	a.drain(msg(0, 1, 1, 0))
	b.cancel(1, api.OK)
	a.shows(5, []api.Run{run(1, 0, 3, 10, 0)}, msg(0, 1, 2, 1), msg(0, 1, 3, 2))
	b.shows(0, nil)
}

// The most that one call may have to do: five runs that go on at each tick, and do MaxSteps instructions each time.
func TestHeaviestTickEnds(t *testing.T) {
	list := busy(nil, api.MaxSteps-2)
	list = append(list, wait(1), jump(0))
	d := begin(t, list...)
	for id := 1; id <= api.MaxRuns; id++ {
		d.trigger(0, id)
	}
	d.tick(api.MaxTick)
	d.shows(api.MaxTick, []api.Run{run(1, 0, 0, 1000, 0), run(2, 0, 0, 1000, 0), run(3, 0, 0, 1000, 0), run(4, 0, 0, 1000, 0), run(5, 0, 0, 1000, 0)})
}
