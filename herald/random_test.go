package herald_test

import (
	"math/rand"
	"strconv"
	"strings"
	"testing"

	"herald/api"
	"herald/herald"
)

// A maker makes texts by chance; the same seed makes the same ones.
type maker struct {
	chance *rand.Rand
	deep   int // blocks within one another, at most
	ticks  int
	times  int
}

func newMaker(chance *rand.Rand) *maker {
	ticks := []int{3, 20, 999}
	times := []int{2, 4, 9}
	return &maker{chance, 3 + chance.Intn(3), ticks[chance.Intn(3)], times[chance.Intn(3)]}
}

func (m *maker) key() string { return string(rune('a' + m.chance.Intn(8))) }

// upTo tells a number from 1 on, and now and then one that may not be.
func (m *maker) upTo(most int) string {
	if m.chance.Intn(400) == 0 {
		return []string{"0", "7", "10", "1000", "0000", "9999"}[m.chance.Intn(6)]
	}
	n := strconv.Itoa(1 + m.chance.Intn(most))
	if m.chance.Intn(20) == 0 {
		n = strings.Repeat("0", 4-len(n)) + n
	}
	return n
}

func (m *maker) braced(deep int) []string {
	list := append([]string{"{"}, m.block(deep+1)...)
	return append(list, "}")
}

func (m *maker) block(deep int) []string {
	var list []string
	for n := m.chance.Intn(4); n > 0; n-- {
		list = append(list, m.statement(deep)...)
	}
	return list
}

func (m *maker) statement(deep int) []string {
	kind := m.chance.Intn(13)
	if deep >= m.deep && kind > 5 {
		kind = m.chance.Intn(6)
	}
	var list []string
	switch {
	case kind < 2:
		return []string{"send", m.key()}
	case kind < 5:
		return []string{"wait", m.upTo(m.ticks)}
	case kind < 6:
		return []string{"stop"}
	case kind < 8:
		list = []string{"ask", m.key(), m.upTo(m.ticks)}
	case kind < 10:
		list = []string{"retry", m.upTo(min(m.times, 6)), m.key(), m.upTo(m.ticks)}
	default:
		return append([]string{"repeat", m.upTo(m.times)}, m.braced(deep)...)
	}
	list = append(list, m.braced(deep)...)
	if m.chance.Intn(2) == 0 {
		list = append(append(list, "else"), m.braced(deep)...)
	}
	return list
}

var stray = []string{"send", "wait", "stop", "ask", "retry", "repeat", "else", "{", "}", "a", "h", "i", "1", "0", "12345", "1x", "x", "\t", "\xff"}

// spoil changes a word, takes one away, or puts one in.
func (m *maker) spoil(words []string) []string {
	at := m.chance.Intn(len(words) + 1)
	word := stray[m.chance.Intn(len(stray))]
	head := append([]string{}, words[:at]...)
	switch m.chance.Intn(3) {
	case 0:
		return append(append(head, word), words[at:]...)
	case 1:
		return append(head, words[min(at+1, len(words)):]...)
	}
	return append(append(head, word), words[min(at+1, len(words)):]...)
}

func (m *maker) joined(words []string) string {
	gaps := []string{" ", "\n", "  ", " \n "}
	text := ""
	for i, word := range words {
		text += word
		brace := word == "{" || word == "}" || i+1 < len(words) && (words[i+1] == "{" || words[i+1] == "}")
		if !brace || m.chance.Intn(2) == 0 {
			text += gaps[m.chance.Intn(len(gaps))]
		}
	}
	return text
}

func randomText(chance *rand.Rand) string {
	m := newMaker(chance)
	words := append(m.block(0), m.block(0)...)
	words = append(words, m.block(0)...)
	if chance.Intn(4) == 0 {
		words = m.spoil(words)
	}
	return m.joined(words)
}

func TestAgainstOracle(t *testing.T) {
	chance := rand.New(rand.NewSource(1))
	var seen [api.ErrSlow + 1]int
	for i := 0; i < 20000; i++ {
		text := randomText(chance)
		wantN, wantFault, wantPlace := oracle(text)
		seen[wantFault]++
		n, fault, place := herald.Longest(text)
		if n != wantN || fault != wantFault || place != wantPlace {
			t.Fatalf("P3, P4: Longest(%q) = %d, %d, %d, want %d, %d, %d", text, n, fault, place, wantN, wantFault, wantPlace)
		}
		_, fault, place = herald.Compile(text)
		if fault != wantFault || place != wantPlace {
			t.Fatalf("P3: Compile(%q): fault %d, %d, want %d, %d", text, fault, place, wantFault, wantPlace)
		}
	}
	for fault, count := range seen {
		if count < 20 {
			t.Errorf("only %d texts with the fault %d", count, fault)
		}
	}
	t.Log("texts by fault:", seen)
}

// Prefixes and suffixes of texts end or begin at every place, in the middle of words too.
func TestCutTextsAgainstOracle(t *testing.T) {
	text := "send a wait 5\nask b 10{send c retry 2 h 3{stop}else{}}else{repeat 3{wait 0007}}stop"
	for i := 0; i <= len(text); i++ {
		for _, part := range []string{text[:i], text[i:]} {
			wantN, wantFault, wantPlace := oracle(part)
			n, fault, place := herald.Longest(part)
			if n != wantN || fault != wantFault || place != wantPlace {
				t.Errorf("P3, P4: Longest(%q) = %d, %d, %d, want %d, %d, %d", part, n, fault, place, wantN, wantFault, wantPlace)
			}
		}
	}
}
