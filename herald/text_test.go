package herald_test

import (
	"strings"
	"testing"

	"herald/api"
	"herald/herald"
)

type longestCase struct {
	text string
	want int
}

type faultCase struct {
	text  string
	fault api.Errno
	place int
}

func checkLongest(t *testing.T, promise string, cases []longestCase) {
	t.Helper()
	for _, c := range cases {
		n, fault, place := herald.Longest(c.text)
		if n != c.want || fault != api.OK || place != 0 {
			t.Errorf("%s: Longest(%q) = %d, %d, %d, want %d, 0, 0", promise, c.text, n, fault, place, c.want)
		}
	}
}

// checkFaults asks both calls that tell a text's fault.
func checkFaults(t *testing.T, promise string, cases []faultCase) {
	t.Helper()
	for _, c := range cases {
		n, fault, place := herald.Longest(c.text)
		if fault != c.fault || place != c.place || fault != api.OK && n != 0 {
			t.Errorf("%s: Longest(%.90q) = %d, %d, %d, want fault %d at %d", promise, c.text, n, fault, place, c.fault, c.place)
		}
		code, fault, place := herald.Compile(c.text)
		if fault != c.fault || place != c.place || fault != api.OK && len(code) != 0 {
			t.Errorf("%s: Compile(%.90q) = %v, %d, %d, want fault %d at %d", promise, c.text, code, fault, place, c.fault, c.place)
		}
	}
}

// nested lays blocks within one another: the head, as often as asked for, then as many closing braces.
func nested(head string, times int) string {
	return strings.Repeat(head, times) + strings.Repeat("}", times)
}

func TestDocumentsExamples(t *testing.T) {
	checkLongest(t, "P4, example 1", []longestCase{
		{"send a wait 5 ask b 10 { send c } else { wait 3 }", 18}, {"ask a 1 { wait 5 }", 5},
		{"retry 3 a 4 { } else { wait 1 }", 29}, {"repeat 3 { wait 2 ask a 4 { stop } }", 18}, {"stop wait 9", 0}, {"", 0},
	})
	checkFaults(t, "P3, examples 2 to 4", []faultCase{
		{"send", api.ErrForm, 4}, {"send i", api.ErrForm, 5}, {"wait 12345", api.ErrForm, 5}, {"wait 0", api.ErrNumber, 5},
		{"ask a 5", api.ErrForm, 7}, {"ask a 5 { } else", api.ErrForm, 16}, {"} send a", api.ErrForm, 0},
		{"wait 5 else { }", api.ErrForm, 7}, {"repeat 9 { repeat 9 { } }", api.ErrHeavy, 11}, {"repeat 8{repeat 8{}}", api.OK, 0},
		{"retry 7 a 1 { }", api.ErrNumber, 6},
		{"repeat 1 { repeat 1 { repeat 1 { repeat 1 { repeat 1 { } } } } }", api.ErrDeep, 53},
		{"repeat 9 { repeat 7 { retry 6 a 999 { } } }", api.ErrSlow, 0},
	})
}

func TestLongestOfPlainStatements(t *testing.T) {
	checkLongest(t, "P4", []longestCase{
		{"", 0}, {" \n \n", 0}, {"send a", 0}, {"stop", 0},
		{"wait 1", 1}, {"wait 999", 999}, {"wait 007", 7}, {"wait 0999", 999},
		{"wait 2 wait 3 send h wait 4", 9},
		{"stop wait 9", 0}, {"wait 3 stop wait 9 stop wait 20", 3},
	})
}

func TestLongestOfAsk(t *testing.T) {
	checkLongest(t, "P4", []longestCase{
		{"send a wait 5 ask b 10 { send c } else { wait 3 }", 18},
		{"ask a 1 { }", 1}, {"ask a 999 { }", 999},
		{"ask a 1 { wait 5 }", 5}, {"ask a 7 { wait 1 }", 7}, {"ask a 7 { wait 2 }", 8},
		{"ask a 7 { wait 6 } else { wait 5 }", 12}, {"ask a 7 { wait 7 } else { wait 5 }", 13},
		{"ask a 7 { } else { wait 5 }", 12},
		{"ask a 7 { ask b 5 { ask c 3 { } } }", 6 + 4 + 3},
		{"ask a 7 { } else { ask b 5 { } else { ask c 3 { } } }", 15},
	})
}

func TestLongestOfAskWithStop(t *testing.T) {
	checkLongest(t, "P4", []longestCase{
		{"ask a 4 { stop } wait 9", 13},
		{"ask a 4 { } else { stop } wait 9", 12},
		{"ask a 4 { stop } else { stop } wait 9", 4},
		{"ask a 4 { wait 50 stop } wait 9", 53},
		{"ask a 4 { } else { wait 50 stop } wait 9", 54},
		{"ask a 4 { } else { wait 8 stop } wait 9", 12},
		{"ask a 4 { ask b 3 { stop } else { stop } } else { stop } wait 9", 6},
	})
}

func TestLongestOfRetry(t *testing.T) {
	checkLongest(t, "P4", []longestCase{
		{"retry 1 a 4 { }", 4}, {"retry 2 a 4 { }", 12}, {"retry 3 a 4 { }", 28}, {"retry 6 a 1 { }", 63},
		{"retry 6 a 999 { }", 62937},
		{"retry 3 a 4 { } else { wait 1 }", 29},
		{"retry 3 a 4 { wait 1 } else { }", 28}, {"retry 3 a 4 { wait 2 } else { }", 29},
		{"retry 1 a 1 { wait 9 }", 9},
		{"retry 3 a 4 { stop } else { wait 1 } wait 10", 39},
		{"retry 3 a 4 { wait 1 } else { stop } wait 10", 38},
		{"retry 3 a 4 { stop } else { stop } wait 10", 28},
		{"retry 2 a 1 { retry 2 b 3 { } } else { retry 2 c 2 { } }", 11},
	})
}

func TestLongestOfRepeat(t *testing.T) {
	checkLongest(t, "P4", []longestCase{
		{"repeat 1 { wait 2 }", 2}, {"repeat 9 { wait 2 }", 18}, {"repeat 9 { }", 0},
		{"repeat 3 { wait 2 ask a 4 { stop } }", 18},
		{"repeat 3 { wait 2 stop }", 2}, {"repeat 3 { stop } wait 7", 0},
		{"repeat 3 { ask a 4 { wait 20 stop } else { } }", 31},
		{"repeat 3 { ask a 4 { stop } else { wait 20 stop } } wait 9", 24},
		{"repeat 2 { repeat 3 { wait 1 } wait 1 }", 8},
		{"repeat 2 { wait 1 } repeat 3 { wait 1 }", 5},
		{"repeat 8{repeat 8{wait 1}}", 64},
	})
}

func TestSlowness(t *testing.T) {
	most := "repeat 5 { repeat 4 { wait 999 wait 999 wait 999 wait 999 wait 999 wait 5 } }"
	checkLongest(t, "P4", []longestCase{{most, 100000}, {most + " stop wait 1", 100000}})
	checkFaults(t, "P3", []faultCase{
		{most, api.OK, 0}, {most + " stop wait 1", api.OK, 0},
		{most + " wait 1", api.ErrSlow, 0}, {"wait 1 " + most, api.ErrSlow, 0},
		{"ask a 2 { " + most + " stop }", api.ErrSlow, 0}, {"ask a 1 { " + most + " stop }", api.OK, 0},
		{"ask a 1 { } else { " + most + " stop }", api.ErrSlow, 0},
		{"repeat 9 { repeat 7 { retry 6 a 999 { } } }", api.ErrSlow, 0},
		{"retry 6 a 999 { } retry 6 b 999 { }", api.ErrSlow, 0},
	})
}

func TestLength(t *testing.T) {
	checkFaults(t, "P3", []faultCase{
		{strings.Repeat(" ", api.MaxText), api.OK, 0},
		{strings.Repeat("stop\n", api.MaxText/5), api.OK, 0},
		{strings.Repeat("stop\n", api.MaxText/5) + " ", api.ErrLong, 0},
		{strings.Repeat(" ", api.MaxText+1), api.ErrLong, 0},
		{strings.Repeat(" ", api.MaxText-1) + "x", api.ErrForm, api.MaxText - 1},
		{strings.Repeat(" ", api.MaxText-4) + "send", api.ErrForm, api.MaxText},
	})
}

func TestWords(t *testing.T) {
	checkFaults(t, "P3", []faultCase{
		{"ask a 5{send b}else{send c}send d", api.OK, 0},
		{"\n\nask\na\n5\n{\n}\nelse\n{\n}\n", api.OK, 0},
		{"senda", api.ErrForm, 0}, {"send\ta", api.ErrForm, 0}, {"\tsend a", api.ErrForm, 0},
		{"send a\r\nstop", api.ErrForm, 5}, {"send a\x00", api.ErrForm, 5}, {"send a\u00a0stop", api.ErrForm, 5},
		{"SEND a", api.ErrForm, 0}, {"stops", api.ErrForm, 0}, {"sto", api.ErrForm, 0}, {"\xff", api.ErrForm, 0},
		{"wait5", api.ErrForm, 0}, {"stop;", api.ErrForm, 0}, {"send a stop,", api.ErrForm, 7},
		{"st{op", api.ErrForm, 0}, {"stop{", api.ErrForm, 4}, {"ask a 5 {{ } }", api.ErrForm, 9},
		{"ask a 5 { } elsewhere { }", api.ErrForm, 12}, {"retry 2 a 5 { }else", api.ErrForm, 19},
	})
}

func TestKeys(t *testing.T) {
	checkFaults(t, "P3", []faultCase{
		{"send a send h", api.OK, 0},
		{"send i", api.ErrForm, 5}, {"send `", api.ErrForm, 5}, {"send A", api.ErrForm, 5}, {"send 0", api.ErrForm, 5},
		{"send aa", api.ErrForm, 5}, {"send }", api.ErrForm, 5}, {"send", api.ErrForm, 4}, {"send \n ", api.ErrForm, 7},
		{"ask i 5 { }", api.ErrForm, 4}, {"ask 5 a { }", api.ErrForm, 4}, {"ask", api.ErrForm, 3},
		{"retry 2 i 5 { }", api.ErrForm, 8}, {"retry 2 5 { }", api.ErrForm, 8}, {"retry 2", api.ErrForm, 7},
	})
}

func TestNumbers(t *testing.T) {
	checkFaults(t, "P3", []faultCase{
		{"wait 1 wait 01 wait 001 wait 0001 wait 999 wait 0999", api.OK, 0},
		{"wait 12345", api.ErrForm, 5}, {"wait 00001", api.ErrForm, 5}, {"wait -1", api.ErrForm, 5}, {"wait +1", api.ErrForm, 5},
		{"wait 1a", api.ErrForm, 5}, {"wait /", api.ErrForm, 5}, {"wait :", api.ErrForm, 5}, {"wait 1.0", api.ErrForm, 5},
		{"wait \u0661", api.ErrForm, 5}, {"wait a", api.ErrForm, 5}, {"wait", api.ErrForm, 4}, {"wait {", api.ErrForm, 5},
		{"ask a x { }", api.ErrForm, 6}, {"ask a", api.ErrForm, 5}, {"retry x a 5 { }", api.ErrForm, 6}, {"retry", api.ErrForm, 5},
		{"retry 2 a x { }", api.ErrForm, 10}, {"retry 2 a", api.ErrForm, 9}, {"repeat x { }", api.ErrForm, 7}, {"repeat", api.ErrForm, 6},
		{"wait 0", api.ErrNumber, 5}, {"wait 0000", api.ErrNumber, 5}, {"wait 1000", api.ErrNumber, 5}, {"wait 9999", api.ErrNumber, 5},
		{"ask a 1 { } ask a 999 { }", api.OK, 0}, {"ask a 0 { }", api.ErrNumber, 6}, {"ask a 1000 { }", api.ErrNumber, 6},
		{"retry 1 a 1 { } retry 6 a 999 { }", api.OK, 0}, {"retry 0 a 1 { }", api.ErrNumber, 6}, {"retry 7 a 1 { }", api.ErrNumber, 6},
		{"retry 1 a 0 { }", api.ErrNumber, 10}, {"retry 1 a 1000 { }", api.ErrNumber, 10},
		{"repeat 1 { } repeat 9 { }", api.OK, 0}, {"repeat 0 { }", api.ErrNumber, 7}, {"repeat 10 { }", api.ErrNumber, 7},
	})
}

func TestBlocks(t *testing.T) {
	checkFaults(t, "P3", []faultCase{
		{"}", api.ErrForm, 0}, {"{", api.ErrForm, 0}, {"{ }", api.ErrForm, 0}, {"stop }", api.ErrForm, 5}, {"else { }", api.ErrForm, 0},
		{"ask a 5", api.ErrForm, 7}, {"ask a 5 stop", api.ErrForm, 8}, {"ask a 5 }", api.ErrForm, 8}, {"ask a 5 else { }", api.ErrForm, 8},
		{"ask a 5 {", api.ErrForm, 9}, {"ask a 5 { stop", api.ErrForm, 14}, {"ask a 5 { else { } }", api.ErrForm, 10},
		{"ask a 5 { } }", api.ErrForm, 12}, {"ask a 5 { } else", api.ErrForm, 16}, {"ask a 5 { } else stop", api.ErrForm, 17},
		{"ask a 5 { } else {", api.ErrForm, 18}, {"ask a 5 { } else { } else { }", api.ErrForm, 21}, {"ask a 5 { } else { } }", api.ErrForm, 21},
		{"ask a 5 { } stop else { }", api.ErrForm, 17}, {"ask a 5 { } { }", api.ErrForm, 12},
		{"retry 2 a 5 { } else { }", api.OK, 0}, {"retry 2 a 5", api.ErrForm, 11}, {"retry 2 a 5 { } else", api.ErrForm, 20},
		{"repeat 2", api.ErrForm, 8}, {"repeat 2 stop", api.ErrForm, 9}, {"repeat 2 { } else { }", api.ErrForm, 13},
		{"repeat 2 { ask a 5 { } } else { }", api.ErrForm, 25}, {"stop stop x", api.ErrForm, 10},
		{"wait 5 else { }", api.ErrForm, 7}, {"send a else { }", api.ErrForm, 7}, {"stop else { }", api.ErrForm, 5},
	})
}

func TestDepth(t *testing.T) {
	inElse := "ask a 1{}else{"
	inRetryElse := "retry 1 a 1{}else{"
	checkFaults(t, "P3", []faultCase{
		{nested("repeat 1{", 4), api.OK, 0}, {nested("repeat 1{", 5), api.ErrDeep, 44}, {nested("repeat 9{", 40), api.ErrDeep, 44},
		{nested("ask a 1{", 4), api.OK, 0}, {nested("ask a 1{", 5), api.ErrDeep, 39},
		{nested("retry 1 a 1{", 4), api.OK, 0}, {nested("retry 1 a 1{", 5), api.ErrDeep, 59},
		{nested(inElse, 4), api.OK, 0}, {nested(inElse, 5), api.ErrDeep, 4*len(inElse) + 7},
		{nested(inRetryElse, 4), api.OK, 0}, {nested(inRetryElse, 5), api.ErrDeep, 4*len(inRetryElse) + 11},
		{nested("repeat 1{", 4) + nested("repeat 1{", 4), api.OK, 0},
		{nested("repeat 1{", 4) + nested("repeat 1{", 5), api.ErrDeep, 40 + 44},
		{"repeat 1 { repeat 1 { repeat 1 { repeat 1 { repeat 1 { } } } } }", api.ErrDeep, 53},
	})
}

func TestWeight(t *testing.T) {
	checkFaults(t, "P3", []faultCase{
		{"repeat 8{repeat 8{}}", api.OK, 0}, {"repeat 9 { repeat 7 { } }", api.OK, 0}, {"repeat 4{repeat 4{repeat 4{repeat 1{}}}}", api.OK, 0},
		{"repeat 9 { repeat 9 { } }", api.ErrHeavy, 11}, {"repeat 5{repeat 1{repeat 3{repeat 5{}}}}", api.ErrHeavy, 27},
		{"repeat 9 { } repeat 9 { }", api.OK, 0}, {"repeat 8 { repeat 8 { } repeat 8 { } } repeat 9 { }", api.OK, 0},
		{"repeat 9 { repeat 2 { } repeat 7 { } repeat 8 { } }", api.ErrHeavy, 37},
		{"repeat 9 { ask a 1 { repeat 7 { } } else { repeat 8 { } } }", api.ErrHeavy, 43},
		{"repeat 9 { retry 6 a 1 { repeat 8 { } } }", api.ErrHeavy, 25},
		{"retry 6 a 1 { repeat 9 { repeat 7 { } } }", api.OK, 0},
		{"repeat 9 { repeat 8 { repeat 2 { } } }", api.ErrHeavy, 11},
	})
}

func TestFirstFaultCounts(t *testing.T) {
	deep := nested("repeat 1{", 5)
	heavy := nested("repeat 9{", 2)
	slow := "retry 6 a 999 { } retry 6 a 999 { } "
	checkFaults(t, "P3", []faultCase{
		{"wait 0 x" + strings.Repeat(" ", api.MaxText), api.ErrLong, 0},
		{slow + heavy + deep + " wait 0 x", api.ErrForm, len(slow+heavy+deep) + 8},
		{slow + heavy + deep + " wait 0", api.ErrNumber, len(slow+heavy+deep) + 6},
		{slow + heavy + deep, api.ErrDeep, len(slow+heavy) + 44},
		{slow + heavy, api.ErrHeavy, len(slow) + 9},
		{slow, api.ErrSlow, 0},
		{"x y", api.ErrForm, 0}, {"wait 0 wait 1000", api.ErrNumber, 5}, {"retry 7 a 1000 { }", api.ErrNumber, 6},
		{deep + deep, api.ErrDeep, 44}, {heavy + heavy, api.ErrHeavy, 9},
		{"wait 0" + strings.Repeat(" repeat 1 {", 9), api.ErrForm, 6 + 99},
	})
}
