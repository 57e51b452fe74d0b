package herald_test

import (
	"math/rand"
	"testing"

	"herald/api"
	"herald/herald"
)

// A story is what was done with a herald: the calls that were OK, and what Show told ahead of the first and behind each.
type story struct {
	code   code
	calls  []call
	states []api.State
	h      *herald.Herald
}

// tell makes calls of a herald of random code, or of the code of a random text.
func tell(t *testing.T, chance *rand.Rand, calls int) story {
	t.Helper()
	list := randomCode(chance)
	if chance.Intn(2) == 0 {
		list = compiled(t, goodText(chance))
	}
	s := story{code: list, h: begin(t, list...).h}
	s.states = append(s.states, s.h.Show())
	for i := 0; i < calls; i++ {
		c := randomCall(chance, s.h.Show())
		if chance.Intn(2) == 0 {
			c = eagerCall(chance, s.h.Show())
		}
		if isOK(c.ofHerald(s.h)) {
			s.calls = append(s.calls, c)
			s.states = append(s.states, s.h.Show())
		}
	}
	return s
}

// again makes the first calls of a story on a new herald.
func (s story) again(t *testing.T, count int) desk {
	t.Helper()
	d := begin(t, s.code...)
	for _, c := range s.calls[:count] {
		c.ofHerald(d.h)
	}
	return d
}

// alike makes the same calls of two heralds, and fails at the first that is answered, or leaves things, otherwise.
func alike(t *testing.T, chance *rand.Rand, a, b *herald.Herald, calls int) {
	t.Helper()
	for i := 0; i < calls; i++ {
		c := randomCall(chance, a.Show())
		if chance.Intn(2) == 0 {
			c = eagerCall(chance, a.Show())
		}
		got, want := c.ofHerald(b), c.ofHerald(a)
		if got != want || !sameState(a.Show(), b.Show()) || a.Journal() != b.Journal() {
			t.Fatalf("P13: the %d-th call behind Open, %c(%d, %d) = %s and %v, want %s and %v", i+1, c.name, c.first, c.second, got, b.Show(), want, a.Show())
		}
	}
}

func TestWholeJournalOpensTheSame(t *testing.T) {
	chance := rand.New(rand.NewSource(13))
	for i := 0; i < 1500; i++ {
		s := tell(t, chance, chance.Intn(60))
		d := opens(t, s.code, s.h.Journal(), len(s.calls))
		if !sameState(d.h.Show(), s.h.Show()) || d.h.Journal() != s.h.Journal() {
			t.Fatalf("P13: code %v, calls %v: %v, want %v", s.code, s.calls, d.h.Show(), s.h.Show())
		}
		alike(t, chance, s.h, d.h, 30)
	}
}

func TestJournalCutAtAnyByte(t *testing.T) {
	chance := rand.New(rand.NewSource(14))
	for i := 0; i < 60; i++ {
		s := tell(t, chance, 30)
		journal := s.h.Journal()
		if journal != journalOf(s.calls...) {
			t.Fatalf("P10: code %v, calls %v: the journal is %x", s.code, s.calls, journal)
		}
		for cut := 0; cut <= len(journal); cut++ {
			whole := cut / 19
			d := opens(t, s.code, journal[:cut], whole)
			if !sameState(d.h.Show(), s.states[whole]) {
				t.Fatalf("P13: code %v, calls %v, cut at %d: %v, want %v", s.code, s.calls, cut, d.h.Show(), s.states[whole])
			}
			if chance.Intn(4) == 0 {
				alike(t, chance, s.again(t, whole).h, d.h, 10)
			}
		}
	}
}

// turn turns over some of 16 consecutive bits of a record, the first one for certain.
func turn(chance *rand.Rand, journal string, index int) string {
	bytes := []byte(journal)
	place := chance.Intn(19 * 8)
	pattern := 1 | chance.Intn(1<<16)
	if chance.Intn(3) == 0 {
		pattern = 1 | 1<<chance.Intn(16)
	}
	for k := 0; k < 16 && place+k < 19*8; k++ {
		if pattern>>k&1 == 1 {
			bytes[19*index+(place+k)/8] ^= 0x80 >> ((place + k) % 8)
		}
	}
	return string(bytes)
}

func TestTurnedBitsStopOpen(t *testing.T) {
	chance := rand.New(rand.NewSource(15))
	for i := 0; i < 300; i++ {
		s := tell(t, chance, 25)
		journal := s.h.Journal()
		for index := range s.calls {
			for try := 0; try < 4; try++ {
				d := opens(t, s.code, turn(chance, journal, index), index)
				if !sameState(d.h.Show(), s.states[index]) {
					t.Fatalf("P13: code %v, calls %v, bits of record %d turned: %v, want %v", s.code, s.calls, index, d.h.Show(), s.states[index])
				}
				if try == 0 {
					alike(t, chance, s.again(t, index).h, d.h, 5)
				}
			}
		}
	}
}

// Records of random calls, OK or not: the model tells which is the first that does not stand.
func TestOpenAgainstModel(t *testing.T) {
	chance := rand.New(rand.NewSource(16))
	stopped := 0
	for i := 0; i < 3000; i++ {
		text := goodText(chance)
		m := modelOf(text)
		var calls []call
		made := 0
		for j := 0; j < 30; j++ {
			c := randomCall(chance, m.show())
			if chance.Intn(4) > 0 {
				c = eagerCall(chance, m.show())
			}
			if made == len(calls) {
				if isOK(c.ofModel(m)) {
					made++
				} else if chance.Intn(10) > 0 {
					continue // most journals shall have some records that stand
				}
			}
			calls = append(calls, c)
		}
		if made < len(calls) {
			stopped++
		}
		d := opens(t, compiled(t, text), journalOf(calls...), made)
		if !sameState(d.h.Show(), m.show()) {
			t.Fatalf("P11: text %q, calls %v, of which %d are made: %v, want %v", text, calls, made, d.h.Show(), m.show())
		}
		if difference := compare(chance, d.h, m, 20); difference != "" {
			t.Fatalf("P11: text %q, calls %v, of which %d are made, %s", text, calls, made, difference)
		}
	}
	if stopped < 500 || stopped > 2500 {
		t.Errorf("%d of 3000 journals have a record that does not stand", stopped)
	}
}

// A watch looks at queues, and keeps what has been drained.
type watch struct {
	t       *testing.T
	drained map[api.Message]bool
	last    map[[2]int]int // the last number drained, by run and key
}

func newWatch(t *testing.T) watch {
	return watch{t, map[api.Message]bool{}, map[[2]int]int{}}
}

func (w watch) look(queue []api.Message) {
	w.t.Helper()
	var count [api.Devices]int
	seen := map[[2]int]bool{}
	for _, m := range queue {
		count[m.Device]++
		if count[m.Device] > api.MaxQueue || seen[[2]int{m.Run, m.Key}] || w.drained[m] {
			w.t.Fatalf("P13: %v is in the queues %v; drained: %v", m, queue, w.drained)
		}
		seen[[2]int{m.Run, m.Key}] = true
	}
}

func (w watch) drain(m api.Message) {
	w.t.Helper()
	key := [2]int{m.Run, m.Key}
	if m.Number <= w.last[key] {
		w.t.Fatalf("P13: %v is drained behind number %d", m, w.last[key])
	}
	w.drained[m] = true
	w.last[key] = m.Number
}

// A herald that crashes again and again is as one that does not, and keeps what P13 says of queues and of Longest.
func TestCrashesChangeNothing(t *testing.T) {
	chance := rand.New(rand.NewSource(17))
	drained := 0
	for i := 0; i < 1500; i++ {
		text := goodText(chance)
		longest, _, _ := herald.Longest(text)
		list, m, w := compiled(t, text), modelOf(text), newWatch(t)
		h := begin(t, list...).h
		begun := map[int]int{}
		for j := 0; j < 80; j++ {
			c := randomCall(chance, m.show())
			if chance.Intn(2) == 0 {
				c = eagerCall(chance, m.show())
			}
			if c.name == 'D' && len(m.queue(c.first)) > 0 {
				w.drain(m.queue(c.first)[0])
				drained++
			}
			got, want := c.ofHerald(h), c.ofModel(m)
			state := h.Show()
			if got != want || !sameState(state, m.show()) {
				t.Fatalf("P13: text %q, %c(%d, %d): %s and %v, want %s and %v", text, c.name, c.first, c.second, got, state, want, m.show())
			}
			w.look(state.Queue)
			for _, r := range state.Runs {
				if _, old := begun[r.Id]; !old {
					begun[r.Id] = state.Now
				}
				if state.Now-begun[r.Id] >= longest {
					t.Fatalf("P13: text %q: run %d goes on %d ticks behind its trigger, and Longest is %d", text, r.Id, state.Now-begun[r.Id], longest)
				}
			}
			if chance.Intn(5) == 0 {
				journal := h.Journal()
				h = opens(t, list, journal, len(journal)/19).h
			}
		}
	}
	if drained < 5000 {
		t.Errorf("only %d messages drained", drained)
	}
}

// Code that no text has keeps what P13 says of queues too.
func TestQueuesOfRandomCode(t *testing.T) {
	chance := rand.New(rand.NewSource(18))
	for i := 0; i < 1500; i++ {
		list := randomCode(chance)
		h, w := begin(t, list...).h, newWatch(t)
		for j := 0; j < 80; j++ {
			c := randomCall(chance, h.Show())
			if c.name == 'D' {
				message, fault := h.Drain(c.first)
				if fault == api.OK {
					w.drain(message)
				}
			} else {
				c.ofHerald(h)
			}
			w.look(h.Show().Queue)
			if chance.Intn(8) == 0 {
				journal := h.Journal()
				h = opens(t, list, journal, len(journal)/19).h
			}
		}
	}
}
