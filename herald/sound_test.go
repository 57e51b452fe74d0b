package herald_test

import (
	"testing"

	"herald/api"
	"herald/herald"
)

// behind stands for the place behind the last instruction, which hangs on the code.
const behind = -1

type bounds struct{ least, most int }

// operands tells what the operands A, B and C of an operation may be.
var operands = map[int][3]bounds{
	api.End:   {},
	api.Send:  {{0, 7}, {}, {}},
	api.Wait:  {{1, 999}, {}, {}},
	api.Ask:   {{0, 7}, {1, 999}, {0, behind}},
	api.Set:   {{0, 11}, {0, 999}, {}},
	api.Twice: {{0, 11}, {}, {}},
	api.Hold:  {{0, 7}, {0, 11}, {0, behind}},
	api.Loop:  {{0, 11}, {}, {0, behind}},
	api.Jump:  {{}, {}, {0, behind}},
}

func mayBe(instr api.Instr, places int) bool {
	list, known := operands[instr.Op]
	for i, value := range [3]int{instr.A, instr.B, instr.C} {
		most := list[i].most
		if most == behind {
			most = places
		}
		known = known && value >= list[i].least && value <= most
	}
	return known
}

func checkNew(t *testing.T, list code, sound bool) {
	t.Helper()
	h, fault := herald.New(list)
	if sound && (h == nil || fault != api.OK) {
		t.Errorf("P5: New(%.3v) of %d instructions = %v, %d, want a herald", list, len(list), h, fault)
	}
	if !sound && (h != nil || fault != api.ErrCode) {
		t.Errorf("P5: New(%.3v) of %d instructions = %v, %d, want nil, ErrCode", list, len(list), h, fault)
	}
}

func TestCodeIsSoundOperandByOperand(t *testing.T) {
	edges := []int{-1 << 63, -1, 0, 1, 2, 3, 4, 7, 8, 11, 12, 998, 999, 1000, 1 << 32, 1<<63 - 1}
	ops := []int{-1 << 63, -1, 0, 1, 2, 3, 4, 5, 6, 7, 8, 9, 255, 1 << 32, 1<<63 - 1}
	for _, op := range ops {
		for i := 0; i < len(edges)*len(edges)*len(edges); i++ {
			n := len(edges)
			instr := api.Instr{Op: op, A: edges[i%n], B: edges[i/n%n], C: edges[i/n/n]}
			checkNew(t, code{instr}, mayBe(instr, 1))
			checkNew(t, code{end(), instr, end()}, mayBe(instr, 3))
		}
	}
}

func TestCodeHasAtMostMaxCodeInstructions(t *testing.T) {
	checkNew(t, nil, true)
	checkNew(t, code{}, true)
	checkNew(t, make(code, api.MaxCode-1), true)
	checkNew(t, make(code, api.MaxCode), true)
	checkNew(t, make(code, api.MaxCode+1), false)
	checkNew(t, make(code, 1000000), false)
}

// Each instruction counts, wherever it stands, and each place in the code may be gone to.
func TestEachInstructionIsLookedAt(t *testing.T) {
	for _, length := range []int{1, 2, 10, api.MaxCode} {
		for _, at := range []int{0, length / 2, length - 1} {
			for _, place := range []int{0, length / 2, length - 1, length} {
				list := make(code, length)
				list[at] = jump(place)
				checkNew(t, list, true)
			}
			for _, wrong := range []api.Instr{{Op: 9}, {A: 1}, send(8), wait(0), jump(length + 1), jump(-1)} {
				list := make(code, length)
				list[at] = wrong
				checkNew(t, list, false)
			}
		}
	}
}

func TestNewBeginsWithNothing(t *testing.T) {
	d := begin(t, send(1), wait(5))
	d.shows(0, nil)
	d.trigger(0, 1)
	d = begin(t, send(1), wait(5))
	d.shows(0, nil)
	d.drainFails(0, api.ErrEmpty)
	d.trigger(2, 1)
}

func TestDocumentsExample10(t *testing.T) {
	checkNew(t, code{send(8)}, false)
	checkNew(t, code{wait(0)}, false)
	checkNew(t, code{jump(2)}, false)
	checkNew(t, code{jump(1)}, true)
	checkNew(t, code{{Op: api.End, A: 1}}, false)
	checkNew(t, nil, true)
}
