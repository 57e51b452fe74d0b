// Package record: the records of a journal, each of one call.
package record

import "herald/api"

// The calls that have records.
const (
	Trigger = 'T'
	Tick    = 'K'
	Ack     = 'A'
	Cancel  = 'C'
	Drain   = 'D'
)

// Where the parts of a record end.
const (
	nameEnd   = 1
	firstEnd  = nameEnd + 8
	secondEnd = firstEnd + 8
)

// Call is a call and its arguments, 0 where it has none.
type Call struct {
	Name   byte
	First  int
	Second int
}

// Write makes the record of a call.
func Write(call Call) []byte {
	list := []byte{call.Name}
	first := eightBytes(call.First)
	list = append(list, first...)
	second := eightBytes(call.Second)
	list = append(list, second...)
	rest := check(list)
	return append(list, byte(rest>>8), byte(rest))
}

// Read tells the call of a record; false, if these bytes are none. They must be just those that would be written, so that no argument counts that is too great for an int.
func Read(bytes string) (Call, bool) {
	if len(bytes) != api.Record {
		return Call{}, false
	}
	first := numberOf(bytes[nameEnd:firstEnd])
	second := numberOf(bytes[firstEnd:secondEnd])
	call := Call{Name: bytes[0], First: first, Second: second}
	written := Write(call)
	if string(written) != bytes || !isCall(call) {
		return Call{}, false
	}
	return call, true
}

// isCall tells whether there is a call of this name, with no argument that it has not.
func isCall(call Call) bool {
	switch call.Name {
	case Trigger, Tick, Cancel, Drain:
		return call.Second == 0
	case Ack:
		return true
	}
	return false
}

// eightBytes has the high byte first.
func eightBytes(number int) []byte {
	var list []byte
	for shift := 56; shift >= 0; shift -= 8 {
		list = append(list, byte(number>>shift))
	}
	return list
}

func numberOf(bytes string) int {
	number := 0
	for i := 0; i < len(bytes); i++ {
		number = number<<8 | int(bytes[i])
	}
	return number
}

// check divides byte by byte. All 16 bits of the rest are set at first, because that turns over the first 16 bits of what is divided; each byte comes in at the rest's head, so that the noughts behind the last one need not be put there.
func check(bytes []byte) int {
	rest := 0xffff
	for _, b := range bytes {
		rest ^= int(b) << 8
		for bit := 0; bit < 8; bit++ {
			rest <<= 1
			if rest > 0xffff {
				rest ^= 0x11021
			}
		}
	}
	return rest
}
