package script

import (
	"reflect"
	"testing"

	"herald/api"
)

func TestReadTellsTheStatements(t *testing.T) {
	text := "send h repeat 3 { wait 0020 ask b 4 { stop send c } } retry 2 a 5 { } else { wait 1 ask d 7 { } else { stop } } stop"
	program, fault, place := Read(text)
	want := []Statement{
		{Kind: Send, Key: 7},
		{Kind: Repeat, Times: 3, Body: 4},
		{Kind: Wait, Ticks: 20},
		{Kind: Ask, Key: 1, Ticks: 4, Body: 2},
		{Kind: Stop},
		{Kind: Send, Key: 2},
		{Kind: Retry, Times: 2, Key: 0, Ticks: 5, Else: 3},
		{Kind: Wait, Ticks: 1},
		{Kind: Ask, Key: 3, Ticks: 7, Else: 1},
		{Kind: Stop},
		{Kind: Stop},
	}
	if !reflect.DeepEqual(program.Statements, want) || fault != api.OK || place != 0 {
		t.Errorf("Read = %v, %d, %d, want %v", program.Statements, fault, place, want)
	}
}

func TestReadTellsNoStatementsBesideAnError(t *testing.T) {
	for _, text := range []string{"send a x", "wait 1 wait 0", "repeat 9 { repeat 9 { } }", "retry 6 a 999 { } retry 6 a 999 { }"} {
		program, fault, _ := Read(text)
		if fault == api.OK || len(program.Statements) != 0 || program.Longest != 0 {
			t.Errorf("Read(%q) = %v, %d", text, program, fault)
		}
	}
}

func TestWordsAreFound(t *testing.T) {
	text := " \nab{ {}c\t}\n"
	want := []string{"ab", "{", "{", "}", "c\t", "}"}
	var got []string
	for at := wordStart(text, 0); at < len(text); {
		end := wordEnd(text, at)
		got = append(got, text[at:end])
		at = wordStart(text, end)
	}
	if !reflect.DeepEqual(got, want) {
		t.Errorf("words %q, want %q", got, want)
	}
}

func TestHeavierStaysWithinAnInt(t *testing.T) {
	product := 1
	for i := 0; i < 100; i++ {
		product = heavier(product, 9999)
		if product != api.MaxHeavy+1 {
			t.Fatalf("%d behind %d repeats", product, i+1)
		}
	}
	if heavier(8, 8) != 64 || heavier(1, 1) != 1 || heavier(13, 5) != api.MaxHeavy+1 {
		t.Error("products are wrong")
	}
}

func TestLongestOfASlowProgram(t *testing.T) {
	slow := []Statement{
		{Kind: Repeat, Times: 9, Body: 2},
		{Kind: Repeat, Times: 7, Body: 1},
		{Kind: Retry, Times: 6, Ticks: 999},
	}
	if got := longestOf(slow); got != 3965031 {
		t.Errorf("longestOf = %d, want 3965031", got)
	}
}
