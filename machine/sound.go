package machine

import "herald/api"

// sound tells whether code may be run: no run of sound code meets an instruction, a register or a place that is none.
func sound(code []api.Instr) bool {
	if len(code) > api.MaxCode {
		return false
	}
	for _, instr := range code {
		if !soundInstr(instr, len(code)) {
			return false
		}
	}
	return true
}

func soundInstr(instr api.Instr, places int) bool {
	switch instr.Op {
	case api.End:
		return instr.A == 0 && instr.B == 0 && instr.C == 0
	case api.Send:
		return isKey(instr.A) && instr.B == 0 && instr.C == 0
	case api.Wait:
		return isPause(instr.A) && instr.B == 0 && instr.C == 0
	case api.Ask:
		return isKey(instr.A) && isPause(instr.B) && isPlace(instr.C, places)
	case api.Set:
		return isRegister(instr.A) && isNumber(instr.B) && instr.C == 0
	case api.Twice:
		return isRegister(instr.A) && instr.B == 0 && instr.C == 0
	case api.Hold:
		return isKey(instr.A) && isRegister(instr.B) && isPlace(instr.C, places)
	case api.Loop:
		return isRegister(instr.A) && instr.B == 0 && isPlace(instr.C, places)
	case api.Jump:
		return instr.A == 0 && instr.B == 0 && isPlace(instr.C, places)
	}
	return false
}

func isKey(value int) bool {
	return value >= 0 && value < api.Keys
}

func isPause(value int) bool {
	return value >= 1 && value <= api.MaxWait
}

func isRegister(value int) bool {
	return value >= 0 && value < api.Regs
}

func isNumber(value int) bool {
	return value >= 0 && value <= api.MaxWait
}

// isPlace allows the place behind the last instruction too: a run that goes there ends.
func isPlace(value int, places int) bool {
	return value >= 0 && value <= places
}
