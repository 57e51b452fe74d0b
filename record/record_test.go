package record

import (
	"strings"
	"testing"

	"herald/api"
)

func TestCheck(t *testing.T) {
	for _, c := range []struct {
		bytes string
		want  int
	}{
		{"123456789", 0x29b1},
		{"T\x00\x00\x00\x00\x00\x00\x00\x02\x00\x00\x00\x00\x00\x00\x00\x00", 0x2406},
		{"A\x00\x00\x00\x00\x00\x00\x00\x01\x00\x00\x00\x00\x00\x00\x00\x01", 0x5408},
	} {
		if got := check([]byte(c.bytes)); got != c.want {
			t.Errorf("P10: the check of %q is %x, want %x", c.bytes, got, c.want)
		}
	}
}

func TestWrite(t *testing.T) {
	for _, c := range []struct {
		call Call
		head string
	}{
		{Call{Trigger, 2, 0}, "T\x00\x00\x00\x00\x00\x00\x00\x02\x00\x00\x00\x00\x00\x00\x00\x00"},
		{Call{Tick, 999, 0}, "K\x00\x00\x00\x00\x00\x00\x03\xe7\x00\x00\x00\x00\x00\x00\x00\x00"},
		{Call{Ack, 0x0102030405060708, 0x7f000000000000ff}, "A\x01\x02\x03\x04\x05\x06\x07\x08\x7f\x00\x00\x00\x00\x00\x00\xff"},
		{Call{Cancel, 0x10000, 0}, "C\x00\x00\x00\x00\x00\x01\x00\x00\x00\x00\x00\x00\x00\x00\x00\x00"},
		{Call{Drain, 0, 0}, "D" + strings.Repeat("\x00", 16)},
	} {
		rest := check([]byte(c.head))
		want := c.head + string([]byte{byte(rest >> 8), byte(rest)})
		if got := string(Write(c.call)); got != want {
			t.Errorf("P10: Write(%v) = %x, want %x", c.call, got, want)
		}
	}
}

var numbers = []int{0, 1, 2, 255, 256, 999, 65536, 1<<31 - 1, 1 << 31, 1 << 32, 1<<32 + 1, 1<<56 - 1, 1 << 56, 1<<63 - 1, -1 << 63, -1, -2, -256}

// What is written is read again, if there is such a call, and else is not.
func TestReadOfWhatIsWritten(t *testing.T) {
	for name := 0; name < 256; name++ {
		for _, first := range numbers {
			for _, second := range numbers {
				call := Call{byte(name), first, second}
				stands := name == 'A' || second == 0 && (name == 'T' || name == 'K' || name == 'C' || name == 'D')
				want := Call{}
				if stands {
					want = call
				}
				got, whole := Read(string(Write(call)))
				if got != want || whole != stands {
					t.Fatalf("P11: the record of %v is read as %v, %v", call, got, whole)
				}
			}
		}
	}
}

func refused(t *testing.T, bytes string) {
	t.Helper()
	call, whole := Read(bytes)
	if whole || call != (Call{}) {
		t.Fatalf("P11: Read(%x) = %v, %v", bytes, call, whole)
	}
}

func TestReadOfOtherLengths(t *testing.T) {
	one := string(Write(Call{Ack, 1, 1}))
	for end := 0; end < len(one); end++ {
		refused(t, one[:end])
		refused(t, one[end+1:])
	}
	refused(t, one+"\x00")
	refused(t, "\x00"+one)
	refused(t, one+one)
}

// Of all checks just one is taken.
func TestReadOfOtherChecks(t *testing.T) {
	right := Write(Call{Drain, 1, 0})
	taken := 0
	for rest := 0; rest <= 0xffff; rest++ {
		bytes := string(right[:secondEnd]) + string([]byte{byte(rest >> 8), byte(rest)})
		if bytes == string(right) {
			_, whole := Read(bytes)
			if !whole {
				t.Errorf("P11: %x is not taken", bytes)
			}
			taken++
			continue
		}
		refused(t, bytes)
	}
	if taken != 1 {
		t.Errorf("%d checks are right", taken)
	}
}

// turned is a record with the bits of a pattern turned over, the first of them at a place.
func turned(bytes []byte, place int, pattern int) string {
	other := append([]byte{}, bytes...)
	for i := 0; i < 16; i++ {
		if pattern>>i&1 == 1 {
			at := place + i
			other[at/8] ^= 0x80 >> (at % 8)
		}
	}
	return string(other)
}

// All patterns within 16 consecutive bits: those that begin at the place, which are the odd ones, at every place.
func TestTurnedBitsAreFound(t *testing.T) {
	bits := api.Record * 8
	bytes := Write(Call{Ack, 3, 0x1234})
	for place := 0; place < bits; place++ {
		for pattern := 1; pattern < 1<<min(16, bits-place); pattern += 2 {
			refused(t, turned(bytes, place, pattern))
		}
	}
}
