// Package script reads texts: their words, their form, their faults, and how long a run of one can take.
package script

import "herald/api"

const maxDigits = 4

func isGap(b byte) bool { return b == ' ' || b == '\n' }

func isBrace(b byte) bool { return b == '{' || b == '}' }

// wordStart tells where the first word from a place on begins: the text's length, if there is none.
func wordStart(text string, at int) int {
	for at < len(text) && isGap(text[at]) {
		at++
	}
	return at
}

// wordEnd tells where the word that begins at a place ends.
func wordEnd(text string, at int) int {
	if at < len(text) && isBrace(text[at]) {
		return at + 1
	}
	for at < len(text) && !isGap(text[at]) && !isBrace(text[at]) {
		at++
	}
	return at
}

// keyOf tells the number of a key; false, if the word is none.
func keyOf(word string) (int, bool) {
	if len(word) != 1 {
		return 0, false
	}
	key := int(word[0]) - 'a'
	if key < 0 || key >= api.Keys {
		return 0, false
	}
	return key, true
}

// numberOf tells the value of a number, be it one that may stand there or not; false, if the word is none.
func numberOf(word string) (int, bool) {
	if len(word) < 1 || len(word) > maxDigits {
		return 0, false
	}
	value := 0
	for i := 0; i < len(word); i++ {
		digit := int(word[i]) - '0'
		if digit < 0 || digit > 9 {
			return 0, false
		}
		value = value*10 + digit
	}
	return value, true
}
