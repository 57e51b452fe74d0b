// Package compile: makes code of texts.
package compile

import (
	"herald/api"
	"herald/script"
)

// The registers below these count the repeats around a statement, of which there are MaxDeep at most. One register for the tries, and one for the pause behind each, are enough for all retries: when a block of one is done, its tries are over.
const (
	tries = api.MaxDeep
	pause = api.MaxDeep + 1
)

// writer writes code from its beginning on.
type writer struct {
	code []api.Instr
}

// Code makes sound code whose runs do what runs of a text do. MaxCode is not come to, because no statement needs more instructions than it has bytes. Nor is MaxSteps: each retry stops, and in ten bytes of other statements there is room for two instructions at most (those of a repeat), each of which is done MaxHeavy times at most; that makes some 5000.
func Code(program script.Program) []api.Instr {
	w := writer{}
	w.block(program.Statements, 0)
	return w.code
}

// put writes an instruction, and tells its place.
func (w *writer) put(instr api.Instr) int {
	place := len(w.code)
	w.code = append(w.code, instr)
	return place
}

// leadOn makes the instruction at a place lead to the one that is written next.
func (w *writer) leadOn(place int) {
	w.code[place].C = len(w.code)
}

// block writes a block that stands within so many repeats.
func (w *writer) block(block []script.Statement, repeats int) {
	for len(block) > 0 {
		first := block[0]
		other := 1 + first.Body
		behind := other + first.Else
		w.statement(first, block[1:other], block[other:behind], repeats)
		block = block[behind:]
	}
}

func (w *writer) statement(s script.Statement, body []script.Statement, otherwise []script.Statement, repeats int) {
	switch s.Kind {
	case script.Send:
		w.put(api.Instr{Op: api.Send, A: s.Key})
	case script.Wait:
		w.put(api.Instr{Op: api.Wait, A: s.Ticks})
	case script.Stop:
		w.put(api.Instr{Op: api.End})
	case script.Ask:
		w.ask(s, body, otherwise, repeats)
	case script.Retry:
		w.retry(s, body, otherwise, repeats)
	case script.Repeat:
		w.repeat(s, body, repeats)
	}
}

// ask has the answered block first, because an answered Ask goes on behind itself.
func (w *writer) ask(s script.Statement, answered []script.Statement, otherwise []script.Statement, repeats int) {
	asked := w.put(api.Instr{Op: api.Ask, A: s.Key, B: s.Ticks})
	w.block(answered, repeats)
	done := w.put(api.Instr{Op: api.Jump})
	w.leadOn(asked)
	w.block(otherwise, repeats)
	w.leadOn(done)
}

// retry has the else block first, because the last Hold goes on behind itself if it is not answered.
func (w *writer) retry(s script.Statement, answered []script.Statement, otherwise []script.Statement, repeats int) {
	w.put(api.Instr{Op: api.Set, A: tries, B: s.Times})
	w.put(api.Instr{Op: api.Set, A: pause, B: s.Ticks})
	held := w.put(api.Instr{Op: api.Hold, A: s.Key, B: pause})
	w.put(api.Instr{Op: api.Twice, A: pause})
	w.put(api.Instr{Op: api.Loop, A: tries, C: held})
	w.block(otherwise, repeats)
	done := w.put(api.Instr{Op: api.Jump})
	w.leadOn(held)
	w.block(answered, repeats)
	w.leadOn(done)
}

func (w *writer) repeat(s script.Statement, body []script.Statement, repeats int) {
	w.put(api.Instr{Op: api.Set, A: repeats, B: s.Times})
	top := len(w.code)
	w.block(body, repeats+1)
	w.put(api.Instr{Op: api.Loop, A: repeats, C: top})
}
