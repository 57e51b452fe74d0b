package script

import "herald/api"

// The kinds of statements.
const (
	None   = 0
	Send   = 1
	Wait   = 2
	Stop   = 3
	Ask    = 4
	Retry  = 5
	Repeat = 6
)

// Statement is one statement. The list that it stands in is flat: right behind it come the Body statements of its block, then the Else ones of its else block; those within them are counted too.
type Statement struct {
	Kind  int
	Key   int
	Times int // how often repeat does its block, how many tries retry has
	Ticks int
	Body  int
	Else  int
}

// Program is a text without a fault.
type Program struct {
	Statements []Statement
	Longest    int // the most ticks that a run can take
}

// reader goes through a text word by word.
type reader struct {
	text       string
	word       string // "" at the text's end
	at         int    // where the word begins
	statements []Statement
	deep       int // how many braces are open
	heavy      int // the numbers of the repeats around, multiplied
	fault      api.Errno
	place      int
}

// Read tells what a text says; with an error, the place of its fault.
func Read(text string) (Program, api.Errno, int) {
	if len(text) > api.MaxText {
		return Program{}, api.ErrLong, 0
	}
	r := reader{text: text, heavy: 1}
	r.advance()
	formed := r.block("")
	if !formed {
		return Program{}, api.ErrForm, r.at
	}
	if r.fault != api.OK {
		return Program{}, r.fault, r.place
	}
	longest := longestOf(r.statements)
	if longest > api.MaxLong {
		return Program{}, api.ErrSlow, 0
	}
	return Program{Statements: r.statements, Longest: longest}, api.OK, 0
}

func (r *reader) advance() {
	r.at = wordStart(r.text, r.at+len(r.word))
	end := wordEnd(r.text, r.at)
	r.word = r.text[r.at:end]
}

// note keeps the fault that counts: the errors' numbers rise in the order in which faults come first, and of one kind the first counts, which is found first too.
func (r *reader) note(fault api.Errno, at int) {
	if r.fault == api.OK || fault < r.fault {
		r.fault = fault
		r.place = at
	}
}

// block reads statements up to the word behind them. This and what it calls answer false at a word that cannot stand there, and stay at it.
func (r *reader) block(behind string) bool {
	for r.word != behind {
		formed := r.statement()
		if !formed {
			return false
		}
	}
	return true
}

// statement reads what stands ahead of the blocks (every kind has its operands in this order), then the blocks.
func (r *reader) statement() bool {
	at := r.at
	kind := kindOf(r.word)
	if kind == None {
		return false
	}
	r.advance()
	times, formed := r.times(kind)
	if !formed {
		return false
	}
	key, formed := r.key(kind)
	if !formed {
		return false
	}
	ticks, formed := r.ticks(kind)
	if !formed {
		return false
	}
	index := len(r.statements)
	r.statements = append(r.statements, Statement{Kind: kind, Key: key, Times: times, Ticks: ticks})
	switch kind {
	case Ask, Retry:
		return r.branches(index)
	case Repeat:
		return r.repeated(index, times, at)
	}
	return true
}

func kindOf(word string) int {
	switch word {
	case "send":
		return Send
	case "wait":
		return Wait
	case "stop":
		return Stop
	case "ask":
		return Ask
	case "retry":
		return Retry
	case "repeat":
		return Repeat
	}
	return None
}

func (r *reader) times(kind int) (int, bool) {
	switch kind {
	case Retry:
		return r.number(api.MaxTries)
	case Repeat:
		return r.number(api.MaxTimes)
	}
	return 0, true
}

func (r *reader) key(kind int) (int, bool) {
	switch kind {
	case Send, Ask, Retry:
		key, formed := keyOf(r.word)
		if formed {
			r.advance()
		}
		return key, formed
	}
	return 0, true
}

func (r *reader) ticks(kind int) (int, bool) {
	switch kind {
	case Wait, Ask, Retry:
		return r.number(api.MaxWait)
	}
	return 0, true
}

// number reads a number that may be 1 to most.
func (r *reader) number(most int) (int, bool) {
	value, formed := numberOf(r.word)
	if !formed {
		return 0, false
	}
	if value < 1 || value > most {
		r.note(api.ErrNumber, r.at)
	}
	r.advance()
	return value, true
}

// branches reads the block of an ask or a retry, and its else block, if it has one.
func (r *reader) branches(index int) bool {
	count, formed := r.braced()
	if !formed {
		return false
	}
	r.statements[index].Body = count
	if r.word != "else" {
		return true
	}
	r.advance()
	count, formed = r.braced()
	r.statements[index].Else = count
	return formed
}

// repeated reads the block of the repeat whose word stands at a place.
func (r *reader) repeated(index int, times int, at int) bool {
	around := r.heavy
	r.heavy = heavier(around, times)
	if r.heavy > api.MaxHeavy {
		r.note(api.ErrHeavy, at)
	}
	count, formed := r.braced()
	r.statements[index].Body = count
	r.heavy = around
	return formed
}

// heavier multiplies, but never goes beyond the first number that is too much: blocks may be so deep that the product is too great for an int.
func heavier(around int, times int) int {
	product := around * times
	if product > api.MaxHeavy {
		return api.MaxHeavy + 1
	}
	return product
}

// braced reads a block in braces, and tells how many statements are in it.
func (r *reader) braced() (int, bool) {
	if r.word != "{" {
		return 0, false
	}
	if r.deep >= api.MaxDeep {
		r.note(api.ErrDeep, r.at)
	}
	before := len(r.statements)
	r.deep++
	r.advance()
	formed := r.block("}")
	if !formed {
		return 0, false
	}
	r.deep--
	r.advance()
	return len(r.statements) - before, true
}
