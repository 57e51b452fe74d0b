package herald_test

import (
	"regexp"
	"strconv"
	"strings"

	"herald/api"
)

// This file tells faults and Longest a second time, in another way than the program: the form by a stack of what must come, the ticks by trying all that can happen to a run.

var wordPattern = regexp.MustCompile(`[{}]|[^ \n{}]+`)
var keyPattern = regexp.MustCompile(`^[a-h]$`)
var numPattern = regexp.MustCompile(`^[0-9]{1,4}$`)

type oracleWord struct {
	text  string
	place int
}

func oracleWords(text string) []oracleWord {
	var words []oracleWord
	for _, span := range wordPattern.FindAllStringIndex(text, -1) {
		words = append(words, oracleWord{text[span[0]:span[1]], span[0]})
	}
	return words
}

// What must come behind each word that begins a statement.
var productions = map[string][]string{
	"send":   {"KEY"},
	"wait":   {"999"},
	"stop":   {},
	"ask":    {"KEY", "999", "{", "BLOCK", "}", "ELSE"},
	"retry":  {"6", "KEY", "999", "{", "BLOCK", "}", "ELSE"},
	"repeat": {"9", "{", "BLOCK", "}"},
	"else":   {"{", "BLOCK", "}"},
}

func pushed(stack []string, word string) []string {
	symbols := productions[word]
	for i := len(symbols) - 1; i >= 0; i-- {
		stack = append(stack, symbols[i])
	}
	return stack
}

// formPlaces tells the place of the fault of form (-1: none), and of the first number that may not be (-1: none).
func formPlaces(text string, words []oracleWord) (int, int) {
	stack := []string{"BLOCK"}
	number := -1
	for _, w := range words {
		for taken := false; !taken; {
			if len(stack) == 0 {
				return w.place, number
			}
			top := stack[len(stack)-1]
			_, begins := productions[w.text]
			switch {
			case top == "BLOCK" && begins && w.text != "else":
				stack = pushed(stack, w.text)
				taken = true
			case top == "ELSE" && w.text == "else":
				stack = pushed(stack[:len(stack)-1], "else")
				taken = true
			case top == "BLOCK" || top == "ELSE":
				stack = stack[:len(stack)-1]
			case top == "{" || top == "}":
				if w.text != top {
					return w.place, number
				}
				stack = stack[:len(stack)-1]
				taken = true
			case top == "KEY":
				if !keyPattern.MatchString(w.text) {
					return w.place, number
				}
				stack = stack[:len(stack)-1]
				taken = true
			default:
				if !numPattern.MatchString(w.text) {
					return w.place, number
				}
				value, _ := strconv.Atoi(w.text)
				most, _ := strconv.Atoi(top)
				if number < 0 && (value < 1 || value > most) {
					number = w.place
				}
				stack = stack[:len(stack)-1]
				taken = true
			}
		}
	}
	for _, symbol := range stack {
		if symbol != "BLOCK" && symbol != "ELSE" {
			return len(text), number
		}
	}
	return -1, number
}

func deepPlace(words []oracleWord) int {
	open := 0
	for _, w := range words {
		switch w.text {
		case "{":
			if open >= 4 {
				return w.place
			}
			open++
		case "}":
			open--
		}
	}
	return -1
}

func heavyPlace(words []oracleWord) int {
	around := []int{1}
	times := 1
	for i, w := range words {
		switch w.text {
		case "repeat":
			times, _ = strconv.Atoi(words[i+1].text)
			if times*around[len(around)-1] > 64 {
				return w.place
			}
		case "{":
			around = append(around, times*around[len(around)-1])
			times = 1
		case "}":
			around = around[:len(around)-1]
		}
	}
	return -1
}

type oracleStatement struct {
	name              string
	key, times, ticks int
	body, other       []*oracleStatement
}

// statementsOf takes a block off the words' head; its words have the form.
func statementsOf(words *[]oracleWord) []*oracleStatement {
	next := func() string {
		w := (*words)[0].text
		*words = (*words)[1:]
		return w
	}
	number := func() int {
		n, _ := strconv.Atoi(next())
		return n
	}
	key := func() int { return strings.Index("abcdefgh", next()) }
	braced := func() []*oracleStatement {
		next()
		list := statementsOf(words)
		next()
		return list
	}
	var list []*oracleStatement
	for len(*words) > 0 && (*words)[0].text != "}" {
		s := &oracleStatement{name: next()}
		list = append(list, s)
		switch s.name {
		case "send":
			s.key = key()
		case "wait":
			s.ticks = number()
		case "ask":
			s.key = key()
			s.ticks = number()
		case "retry":
			s.times = number()
			s.key = key()
			s.ticks = number()
		case "repeat":
			s.times = number()
		}
		switch s.name {
		case "ask", "retry", "repeat":
			s.body = braced()
		}
		if (s.name == "ask" || s.name == "retry") && len(*words) > 0 && (*words)[0].text == "else" {
			next()
			s.other = braced()
		}
	}
	return list
}

// A point is what a run still has to do: some statements, and then what is behind them.
type point struct {
	list   []*oracleStatement
	behind *point
}

// ticksFrom tries all that can happen from a point on, and tells the most ticks.
func ticksFrom(p *point, known map[*point]int) int {
	if p == nil {
		return 0
	}
	if most, ok := known[p]; ok {
		return most
	}
	most := 0
	if len(p.list) == 0 {
		most = ticksFrom(p.behind, known)
	} else {
		most = ticksOf(p.list[0], &point{p.list[1:], p.behind}, known)
	}
	known[p] = most
	return most
}

func ticksOf(s *oracleStatement, rest *point, known map[*point]int) int {
	switch s.name {
	case "send":
		return ticksFrom(rest, known)
	case "wait":
		return s.ticks + ticksFrom(rest, known)
	case "ask":
		return ticksOfTries(1, s, rest, known)
	case "retry":
		return ticksOfTries(s.times, s, rest, known)
	case "repeat":
		for i := 0; i < s.times; i++ {
			rest = &point{s.body, rest}
		}
		return ticksFrom(rest, known)
	}
	return 0
}

func ticksOfTries(tries int, s *oracleStatement, rest *point, known map[*point]int) int {
	answered := ticksFrom(&point{s.body, rest}, known)
	gone, most := 0, 0
	for i := 0; i < tries; i++ {
		for late := 0; late < s.ticks<<i; late++ {
			most = max(most, gone+late+answered)
		}
		gone += s.ticks << i
	}
	return max(most, gone+ticksFrom(&point{s.other, rest}, known))
}

func oracle(text string) (int, api.Errno, int) {
	if len(text) > 400 {
		return 0, api.ErrLong, 0
	}
	words := oracleWords(text)
	form, number := formPlaces(text, words)
	if form >= 0 {
		return 0, api.ErrForm, form
	}
	if number >= 0 {
		return 0, api.ErrNumber, number
	}
	if place := deepPlace(words); place >= 0 {
		return 0, api.ErrDeep, place
	}
	if place := heavyPlace(words); place >= 0 {
		return 0, api.ErrHeavy, place
	}
	ticks := ticksFrom(&point{statementsOf(&words), nil}, map[*point]int{})
	if ticks > 100000 {
		return 0, api.ErrSlow, 0
	}
	return ticks, api.OK, 0
}
