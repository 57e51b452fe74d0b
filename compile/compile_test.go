package compile

import (
	"slices"
	"testing"

	"herald/api"
	"herald/script"
)

func codeOf(t *testing.T, text string) []api.Instr {
	t.Helper()
	program, fault, place := script.Read(text)
	if fault != api.OK {
		t.Fatalf("Read(%q): %d at %d", text, fault, place)
	}
	return Code(program)
}

func TestCodeOfEachStatement(t *testing.T) {
	for _, c := range []struct {
		text string
		want []api.Instr
	}{
		{"", nil},
		{"send h wait 20 stop", []api.Instr{{Op: api.Send, A: 7}, {Op: api.Wait, A: 20}, {Op: api.End}}},
		{"ask b 5 { send c } else { send d }", []api.Instr{
			{Op: api.Ask, A: 1, B: 5, C: 3}, {Op: api.Send, A: 2}, {Op: api.Jump, C: 4}, {Op: api.Send, A: 3},
		}},
		{"retry 3 b 5 { send c } else { send d }", []api.Instr{
			{Op: api.Set, A: 4, B: 3}, {Op: api.Set, A: 5, B: 5}, {Op: api.Hold, A: 1, B: 5, C: 7}, {Op: api.Twice, A: 5}, {Op: api.Loop, A: 4, C: 2},
			{Op: api.Send, A: 3}, {Op: api.Jump, C: 8}, {Op: api.Send, A: 2},
		}},
		{"repeat 3 { repeat 2 { send a } } repeat 4 { }", []api.Instr{
			{Op: api.Set, A: 0, B: 3}, {Op: api.Set, A: 1, B: 2}, {Op: api.Send, A: 0}, {Op: api.Loop, A: 1, C: 2}, {Op: api.Loop, A: 0, C: 1},
			{Op: api.Set, A: 0, B: 4}, {Op: api.Loop, A: 0, C: 6},
		}},
	} {
		got := codeOf(t, c.text)
		if !slices.Equal(got, c.want) {
			t.Errorf("code of %q: %v, want %v", c.text, got, c.want)
		}
	}
}

// A repeat's count must outlive the retries and repeats in its block.
func TestRegistersAreApart(t *testing.T) {
	code := codeOf(t, "repeat 2{repeat 2{repeat 2{retry 2 a 3{}repeat 2{}}}}")
	var registers []int
	for _, instr := range code {
		if instr.Op == api.Set {
			registers = append(registers, instr.A)
		}
	}
	if !slices.Equal(registers, []int{0, 1, 2, 4, 5, 3}) {
		t.Errorf("registers %v", registers)
	}
}
