package herald_test

import (
	"math/rand"
	"strings"
	"testing"

	"herald/api"
	"herald/herald"
)

// strangeTexts are texts that nobody would write.
func strangeTexts() []string {
	list := []string{
		strings.Repeat("{", 10000000), strings.Repeat("repeat 9 { ", 1000000), strings.Repeat("\x00", 400),
		strings.Repeat("{", 400), strings.Repeat("}", 400), strings.Repeat("9", 400),
		strings.Repeat("repeat 9999{", 33), nested("repeat 9999{", 30), nested("repeat 0{", 40), nested("retry 6 a 999{", 26),
		nested("ask a 1{}else{", 26), strings.Repeat("wait 999 ", 44), strings.Repeat("stop ", 80),
	}
	for b := 0; b < 256; b++ {
		one := string([]byte{byte(b)})
		list = append(list, one, "send "+one, "wait "+one, "send a"+one, "wait 5"+one, "repeat 2"+one+"{}", "ask a 5{"+one+"}")
	}
	chance := rand.New(rand.NewSource(2))
	for i := 0; i < 5000; i++ {
		bytes := make([]byte, chance.Intn(410))
		chance.Read(bytes)
		list = append(list, string(bytes))
	}
	for i := 0; i < 5000; i++ {
		text := ""
		for n := chance.Intn(40); n > 0; n-- {
			text += stray[chance.Intn(len(stray))] + " "
		}
		list = append(list, text)
	}
	return list
}

func TestTextsEndWithoutPanic(t *testing.T) {
	for _, text := range strangeTexts() {
		n, fault, place := herald.Longest(text)
		if fault < api.OK || fault > api.ErrSlow || place < 0 || place > len(text) {
			t.Errorf("P1: Longest(%.60q) = %d, %d, %d", text, n, fault, place)
		}
		if fault != api.OK && n != 0 {
			t.Errorf("P1: Longest(%.60q) = %d beside the error %d", text, n, fault)
		}
		if (fault == api.OK || fault == api.ErrLong || fault == api.ErrSlow) && place != 0 {
			t.Errorf("P1: Longest(%.60q): place %d beside %d", text, place, fault)
		}
		code, compileFault, compilePlace := herald.Compile(text)
		if compileFault != fault || compilePlace != place || fault != api.OK && len(code) != 0 {
			t.Errorf("P1: Compile(%.60q) = %v, %d, %d, and Longest says %d, %d", text, code, compileFault, compilePlace, fault, place)
		}
		if h, fault := herald.New(code); h == nil || fault != api.OK {
			t.Errorf("P12: Compile(%.60q) = %v, which is not sound", text, code)
		}
	}
}

type answer struct {
	n     int
	fault api.Errno
	place int
}

func longest(text string) answer {
	n, fault, place := herald.Longest(text)
	return answer{n, fault, place}
}

// An answer hangs on the argument alone, so the order of the calls, and what was asked in between, changes none.
func TestLongestHangsOnItsTextAlone(t *testing.T) {
	chance := rand.New(rand.NewSource(3))
	var texts []string
	var answers []answer
	for i := 0; i < 500; i++ {
		text := randomText(chance)
		texts = append(texts, text)
		answers = append(answers, longest(text))
	}
	for i := len(texts) - 1; i >= 0; i-- {
		herald.Compile(texts[chance.Intn(len(texts))])
		got := longest(texts[i])
		if got != answers[i] {
			t.Errorf("P2: Longest(%q) was %v and is %v", texts[i], answers[i], got)
		}
	}
}

// A text that is a part of a longer one is told like one that stands alone: what lies around it counts for nothing.
func TestLongestReadsNothingBeyondItsText(t *testing.T) {
	whole := "wait 5 send a } wait 0"
	for end := 0; end <= len(whole); end++ {
		part := whole[:end]
		alone := strings.Clone(part)
		got, want := longest(part), longest(alone)
		if got != want {
			t.Errorf("P2: Longest(%q) = %v within a longer text, %v alone", part, got, want)
		}
	}
	if whole != "wait 5 send a } wait 0" {
		t.Errorf("P2: the text became %q", whole)
	}
}
