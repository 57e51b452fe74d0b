package script

// never stands for the ticks of a way that no run can go.
const never = -1

// span is the most ticks that a part of a text can take: through to what stands behind it, and up to a stop within it.
type span struct {
	through int
	halt    int
}

// longestOf tells the most ticks that a run can take.
func longestOf(statements []Statement) int {
	all := blockSpan(statements)
	return longer(all.through, all.halt)
}

func blockSpan(block []Statement) span {
	all := span{through: 0, halt: never}
	for len(block) > 0 {
		first := block[0]
		other := 1 + first.Body
		behind := other + first.Else
		body := blockSpan(block[1:other])
		otherwise := blockSpan(block[other:behind])
		one := statementSpan(first, body, otherwise)
		all = then(all, one)
		block = block[behind:]
	}
	return all
}

// statementSpan tells the span of a statement by those of its blocks.
func statementSpan(s Statement, body span, otherwise span) span {
	switch s.Kind {
	case Wait:
		return span{through: s.Ticks, halt: never}
	case Stop:
		return span{through: never, halt: 0}
	case Ask:
		return answerSpan(s.Ticks, body, otherwise)
	case Retry:
		ticks := allTries(s.Times, s.Ticks)
		return answerSpan(ticks, body, otherwise)
	case Repeat:
		return repeatSpan(s.Times, body)
	}
	return span{through: 0, halt: never}
}

// answerSpan is of a wait for an answer, which comes one tick ahead of its end at the latest.
func answerSpan(ticks int, answered span, otherwise span) span {
	early := after(ticks-1, answered)
	late := after(ticks, otherwise)
	through := longer(early.through, late.through)
	halt := longer(early.halt, late.halt)
	return span{through: through, halt: halt}
}

func allTries(tries int, ticks int) int {
	total := 0
	pause := ticks
	for i := 0; i < tries; i++ {
		total += pause
		pause *= 2
	}
	return total
}

func repeatSpan(times int, body span) span {
	all := span{through: 0, halt: never}
	for i := 0; i < times; i++ {
		all = then(all, body)
	}
	return all
}

// then tells the span of two parts, one behind the other: the second is come to only through the first.
func then(first span, second span) span {
	if first.through == never {
		return first
	}
	moved := after(first.through, second)
	halt := longer(first.halt, moved.halt)
	return span{through: moved.through, halt: halt}
}

// after tells the span of a part that some ticks go ahead of.
func after(ticks int, part span) span {
	through := plus(ticks, part.through)
	halt := plus(ticks, part.halt)
	return span{through: through, halt: halt}
}

func plus(ticks int, more int) int {
	if more == never {
		return never
	}
	return ticks + more
}

func longer(a int, b int) int {
	if a > b {
		return a
	}
	return b
}
