package herald_test

import (
	"math/rand"
	"slices"
	"testing"

	"herald/api"
	"herald/herald"
)

// goOnText does statements of a text from a point on.
func (m *model) goOnText(r *modelRun, p *point) {
	r.number = 0
	for p != nil {
		if len(p.list) == 0 {
			p = p.behind
			continue
		}
		s, rest := p.list[0], &point{p.list[1:], p.behind}
		p = rest
		switch s.name {
		case "send":
			m.send(r, s.key)
		case "wait":
			r.until, r.without = m.now+s.ticks, rest
			return
		case "stop":
			p = nil
		case "ask":
			r.answered, r.without = &point{s.body, rest}, &point{s.other, rest}
			if m.send(r, s.key) {
				r.until, r.number = m.now+s.ticks, r.sent
				return
			}
			p = r.without
		case "retry":
			r.answered, r.without = &point{s.body, rest}, &point{s.other, rest}
			if s.times > 1 {
				next := &oracleStatement{"retry", s.key, s.times - 1, 2 * s.ticks, s.body, s.other}
				r.without = &point{[]*oracleStatement{next}, rest}
			}
			if m.send(r, s.key) {
				r.number = r.sent
			}
			r.until = m.now + s.ticks
			return
		case "repeat":
			for i := 0; i < s.times; i++ {
				p = &point{s.body, p}
			}
		}
	}
	r.ended = true
}

func modelOf(text string) *model {
	words := oracleWords(text)
	return &model{text: &point{statementsOf(&words), nil}}
}

func compiled(t *testing.T, text string) code {
	t.Helper()
	list, fault, place := herald.Compile(text)
	if fault != api.OK || place != 0 {
		t.Fatalf("P12: Compile(%q): %d, %d", text, fault, place)
	}
	return list
}

// beginText begins with the code of a text, which New takes only if it is sound.
func beginText(t *testing.T, text string) desk {
	t.Helper()
	return begin(t, compiled(t, text)...)
}

// goodText makes a text without a fault.
func goodText(chance *rand.Rand) string {
	for {
		text := randomText(chance)
		if _, fault, _ := oracle(text); fault == api.OK {
			return text
		}
	}
}

func TestRunsOfTextsAgainstModel(t *testing.T) {
	chance := rand.New(rand.NewSource(8))
	for i := 0; i < 6000; i++ {
		text := goodText(chance)
		d := beginText(t, text)
		if difference := compare(chance, d.h, modelOf(text), 60); difference != "" {
			t.Fatalf("P12: text %q, %s", text, difference)
		}
	}
}

// eagerCall drains and answers what a run waits for, if one does; now and then it lets the time go by up to the last tick.
func eagerCall(chance *rand.Rand, state api.State) call {
	chance.Shuffle(len(state.Runs), func(i, j int) { state.Runs[i], state.Runs[j] = state.Runs[j], state.Runs[i] })
	for _, r := range state.Runs {
		left := r.Until - 1 - state.Now
		switch {
		case r.Number == 0:
			continue
		case slices.ContainsFunc(state.Queue, func(m api.Message) bool { return m.Run == r.Id && m.Number == r.Number }):
			return call{'D', r.Device, 0}
		case left > 0 && left <= api.MaxTick && chance.Intn(3) == 0:
			return call{'K', left, 0}
		}
		return call{'A', r.Id, r.Number}
	}
	return call{'T', chance.Intn(api.Devices), 0}
}

// Answers come often here, and each run must have ended when as many ticks have gone by as Longest tells.
func TestAnsweredRunsOfTextsAgainstModel(t *testing.T) {
	chance := rand.New(rand.NewSource(9))
	answered := 0
	for i := 0; i < 3000; i++ {
		text := goodText(chance)
		longest, _, _ := herald.Longest(text)
		h, m := beginText(t, text).h, modelOf(text)
		begun := map[int]int{}
		for j := 0; j < 80; j++ {
			c := randomCall(chance, m.show())
			if chance.Intn(4) > 0 {
				c = eagerCall(chance, m.show())
			}
			got, want := c.ofHerald(h), c.ofModel(m)
			state, wantState := h.Show(), m.show()
			if got != want || !sameState(state, wantState) {
				t.Fatalf("P12: text %q, %c(%d, %d): %s and %v, want %s and %v", text, c.name, c.first, c.second, got, state, want, wantState)
			}
			if c.name == 'A' && isOK(got) {
				answered++
			}
			for _, r := range state.Runs {
				if _, old := begun[r.Id]; !old {
					begun[r.Id] = state.Now
				}
				if state.Now-begun[r.Id] >= longest {
					t.Fatalf("P13: text %q: run %d goes on %d ticks behind its trigger, and Longest is %d", text, r.Id, state.Now-begun[r.Id], longest)
				}
			}
		}
	}
	if answered < 10000 {
		t.Errorf("only %d answers", answered)
	}
}
