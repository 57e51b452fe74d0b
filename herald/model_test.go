package herald_test

import (
	"fmt"
	"math/rand"
	"slices"
	"testing"

	"herald/api"
	"herald/herald"
)

// A model does what the document says in another way than the program: tick by tick, with all messages in one list, and all runs ever begun in another. Its runs are of a text, if it has one, else of code.
type model struct {
	code  code
	text  *point
	now   int
	runs  []*modelRun
	posts []api.Message
}

type modelRun struct {
	id, device, sent, until, number int
	at                              int // the instruction at which it stopped
	registers                       map[int]int
	answered, without               *point // what a run of a text does then, if it is answered, and if not
	ended                           bool
}

func (m *model) queue(device int) []api.Message {
	var list []api.Message
	for _, p := range m.posts {
		if p.Device == device {
			list = append(list, p)
		}
	}
	return list
}

func (m *model) drop(gone func(api.Message) bool) { m.posts = slices.DeleteFunc(m.posts, gone) }

// living tells the run of a number, or nil if there is none that has not ended.
func (m *model) living(id int) *modelRun {
	for _, r := range m.runs {
		if r.id == id && !r.ended {
			return r
		}
	}
	return nil
}

func (m *model) show() api.State {
	state := api.State{Now: m.now}
	for _, r := range m.runs {
		if !r.ended {
			state.Runs = append(state.Runs, run(r.id, r.device, r.sent, r.until, r.number))
		}
	}
	for device := 0; device < 3; device++ {
		state.Queue = append(state.Queue, m.queue(device)...)
	}
	return state
}

func (m *model) send(r *modelRun, key int) bool {
	post := msg(r.device, r.id, r.sent+1, key)
	old := slices.IndexFunc(m.posts, func(p api.Message) bool { return p.Run == r.id && p.Key == key })
	switch {
	case old >= 0:
		m.posts[old] = post
	case len(m.queue(r.device)) == 4:
		return false
	default:
		m.posts = append(m.posts, post)
	}
	r.sent++
	return true
}

// goOn does instructions from a place on.
func (m *model) goOn(r *modelRun, at int) {
	r.number = 0
	for done := 0; ; done++ {
		if at == len(m.code) || done == 10000 {
			r.ended = true
			return
		}
		r.at = at
		i := m.code[at]
		at++
		switch i.Op {
		case api.End:
			r.ended = true
			return
		case api.Send:
			m.send(r, i.A)
		case api.Wait:
			r.until = m.now + i.A
			return
		case api.Ask:
			if m.send(r, i.A) {
				r.until, r.number = m.now+i.B, r.sent
				return
			}
			at = i.C
		case api.Set:
			r.registers[i.A] = i.B
		case api.Twice:
			r.registers[i.A] = min(2*r.registers[i.A], 1000000)
		case api.Hold:
			if m.send(r, i.A) {
				r.number = r.sent
			}
			r.until = m.now + max(1, r.registers[i.B])
			return
		case api.Loop:
			r.registers[i.A] = max(0, r.registers[i.A]-1)
			if r.registers[i.A] > 0 {
				at = i.C
			}
		case api.Jump:
			at = i.C
		}
	}
}

func (m *model) begin(r *modelRun) {
	if m.text != nil {
		m.goOnText(r, m.text)
		return
	}
	m.goOn(r, 0)
}

// resume lets a stopped run go on.
func (m *model) resume(r *modelRun, answered bool) {
	if m.text != nil {
		next := r.without
		if answered {
			next = r.answered
		}
		m.goOnText(r, next)
		return
	}
	i := m.code[r.at]
	if i.Op == api.Ask && !answered || i.Op == api.Hold && answered {
		m.goOn(r, i.C)
		return
	}
	m.goOn(r, r.at+1)
}

func (m *model) trigger(device int) (int, api.Errno) {
	if device < 0 || device > 2 {
		return 0, api.ErrDevice
	}
	if len(m.show().Runs) == 5 {
		return 0, api.ErrRuns
	}
	r := &modelRun{id: len(m.runs) + 1, device: device, registers: map[int]int{}}
	m.runs = append(m.runs, r)
	m.begin(r)
	return r.id, api.OK
}

func (m *model) tick(n int) api.Errno {
	if n < 1 || n > 999 {
		return api.ErrTime
	}
	for ; n > 0; n-- {
		m.now++
		for _, r := range m.runs {
			if r.ended || r.until != m.now {
				continue
			}
			id, number := r.id, r.number
			m.drop(func(p api.Message) bool { return p.Run == id && p.Number == number })
			m.resume(r, false)
		}
	}
	return api.OK
}

func (m *model) ack(id, number int) api.Errno {
	r := m.living(id)
	if r == nil {
		return api.ErrRun
	}
	if r.number == 0 || r.number != number {
		return api.ErrWait
	}
	if slices.ContainsFunc(m.posts, func(p api.Message) bool { return p.Run == id && p.Number == number }) {
		return api.ErrQueue
	}
	m.resume(r, true)
	return api.OK
}

func (m *model) cancel(id int) api.Errno {
	r := m.living(id)
	if r == nil {
		return api.ErrRun
	}
	r.ended = true
	m.drop(func(p api.Message) bool { return p.Run == id })
	return api.OK
}

func (m *model) drain(device int) (api.Message, api.Errno) {
	if device < 0 || device > 2 {
		return api.Message{}, api.ErrDevice
	}
	queue := m.queue(device)
	if len(queue) == 0 {
		return api.Message{}, api.ErrEmpty
	}
	m.drop(func(p api.Message) bool { return p == queue[0] })
	return queue[0], api.OK
}

// randomInstr makes an instruction of sound code; many kinds of runs come from few keys, registers and ticks.
func randomInstr(chance *rand.Rand, places, keys, ticks int) api.Instr {
	key, reg, place := chance.Intn(keys), chance.Intn(3), chance.Intn(places+1)
	switch chance.Intn(16) {
	case 0:
		return end()
	case 1, 2, 3, 4:
		return send(key)
	case 5, 6:
		return wait(1 + chance.Intn(ticks))
	case 7, 8, 9:
		return ask(key, 1+chance.Intn(ticks), place)
	case 10:
		return set(reg, chance.Intn(ticks+1))
	case 11:
		return twice(reg)
	case 12, 13:
		return hold(key, reg, place)
	case 14:
		return loop(reg, place)
	}
	return jump(place)
}

func randomCode(chance *rand.Rand) code {
	list := make(code, chance.Intn(20))
	keys := 1 + chance.Intn(8)
	ticks := []int{2, 9, 999}[chance.Intn(3)]
	for i := range list {
		list[i] = randomInstr(chance, len(list), keys, ticks)
	}
	return list
}

// A call is one of a herald's methods and its arguments.
type call struct {
	name          byte
	first, second int
}

// randomCall makes a call that often is OK, as things stand.
func randomCall(chance *rand.Rand, state api.State) call {
	device := chance.Intn(3)
	r := run(chance.Intn(9), 0, 0, 0, chance.Intn(4))
	if len(state.Runs) > 0 && chance.Intn(8) > 0 {
		r = state.Runs[chance.Intn(len(state.Runs))]
	}
	if chance.Intn(30) == 0 {
		device = chance.Intn(6) - 2
	}
	switch chance.Intn(12) {
	case 0, 1, 2:
		return call{'T', device, 0}
	case 3, 4:
		return call{'K', 1 + chance.Intn(3), 0}
	case 5:
		return call{'K', chance.Intn(1003) - 1, 0}
	case 6, 7:
		return call{'A', r.Id, r.Number}
	case 8:
		return call{'A', r.Id, r.Number + chance.Intn(3) - 1}
	case 9:
		if chance.Intn(3) == 0 {
			return call{'C', r.Id, 0}
		}
	}
	return call{'D', device, 0}
}

func (c call) ofModel(m *model) string {
	switch c.name {
	case 'T':
		id, fault := m.trigger(c.first)
		return fmt.Sprint(id, fault)
	case 'K':
		return fmt.Sprint(m.tick(c.first))
	case 'A':
		return fmt.Sprint(m.ack(c.first, c.second))
	case 'C':
		return fmt.Sprint(m.cancel(c.first))
	}
	message, fault := m.drain(c.first)
	return fmt.Sprint(message, fault)
}

func (c call) ofHerald(h *herald.Herald) string {
	switch c.name {
	case 'T':
		id, fault := h.Trigger(c.first)
		return fmt.Sprint(id, fault)
	case 'K':
		return fmt.Sprint(h.Tick(c.first))
	case 'A':
		return fmt.Sprint(h.Ack(c.first, c.second))
	case 'C':
		return fmt.Sprint(h.Cancel(c.first))
	}
	message, fault := h.Drain(c.first)
	return fmt.Sprint(message, fault)
}

// compare makes the same calls of both, and tells the first that is answered, or leaves things, otherwise ("": none).
func compare(chance *rand.Rand, h *herald.Herald, m *model, calls int) string {
	var made []string
	for i := 0; i < calls; i++ {
		c := randomCall(chance, m.show())
		made = append(made, fmt.Sprintf("%c(%d, %d)", c.name, c.first, c.second))
		got, want := c.ofHerald(h), c.ofModel(m)
		state, wantState := h.Show(), m.show()
		if got != want || !sameState(state, wantState) {
			return fmt.Sprintf("calls %v: %s and %v, want %s and %v", made, got, state, want, wantState)
		}
	}
	return ""
}

func TestAgainstModel(t *testing.T) {
	chance := rand.New(rand.NewSource(5))
	for i := 0; i < 4000; i++ {
		list := randomCode(chance)
		d := begin(t, list...)
		if difference := compare(chance, d.h, &model{code: list}, 50); difference != "" {
			t.Fatalf("P5 to P9: code %v, %s", list, difference)
		}
	}
}
