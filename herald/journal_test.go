package herald_test

import (
	"math/rand"
	"slices"
	"strings"
	"testing"

	"herald/api"
	"herald/herald"
)

// checkOf divides as the document says it, on a list of bits.
func checkOf(bytes string) string {
	var bits []byte
	for _, b := range []byte(bytes) {
		for k := 7; k >= 0; k-- {
			bits = append(bits, b>>k&1)
		}
	}
	for i := 0; i < 16; i++ {
		bits[i] ^= 1
	}
	bits = append(bits, make([]byte, 16)...)
	behind := len(bits) - 16
	for i := 0; i < behind; i++ {
		if bits[i] == 1 {
			for _, power := range []int{16, 12, 5, 0} {
				bits[i+16-power] ^= 1
			}
		}
	}
	rest := 0
	for _, bit := range bits[behind:] {
		rest = 2*rest + int(bit)
	}
	return string([]byte{byte(rest / 256), byte(rest % 256)})
}

func numberBytes(n int) string {
	bytes := make([]byte, 8)
	for i, left := 7, uint64(n); i >= 0; i, left = i-1, left/256 {
		bytes[i] = byte(left % 256)
	}
	return string(bytes)
}

func checked(bytes string) string { return bytes + checkOf(bytes) }

func (c call) record() string {
	return checked(string([]byte{c.name}) + numberBytes(c.first) + numberBytes(c.second))
}

func journalOf(calls ...call) string {
	var all strings.Builder
	for _, c := range calls {
		all.WriteString(c.record())
	}
	return all.String()
}

func (d desk) journals(want string) {
	d.t.Helper()
	if got := d.h.Journal(); got != want {
		d.t.Fatalf("P10: Journal() = %x, want %x", got, want)
	}
}

// opens opens, and tells if not as many records as wanted were made, and written down.
func opens(t *testing.T, list code, journal string, want int) desk {
	t.Helper()
	h, made, fault := herald.Open(list, journal)
	if h == nil || made != want || fault != api.OK {
		t.Fatalf("P11: Open(%v, %.200x .. of %d bytes) = %d, %d, want %d, 0", list, journal, len(journal), made, fault, want)
	}
	d := desk{t, h}
	d.journals(journal[:want*19])
	return d
}

func TestDocumentsRecords(t *testing.T) {
	if checkOf("123456789") != "\x29\xb1" {
		t.Fatalf("the tests' own check is %x", checkOf("123456789"))
	}
	d := begin(t, send(0), wait(5))
	d.journals("")
	d.trigger(2, 1)
	journal := d.h.Journal()
	if len(journal) != 19 || !strings.HasPrefix(journal, "T\x00\x00\x00\x00\x00\x00\x00\x02\x00\x00\x00\x00\x00\x00\x00\x00") {
		t.Errorf("P10: behind Trigger(2): %x", journal)
	}
	if journal[17:] != "\x24\x06" {
		t.Errorf("P10: the check is %x", journal[17:])
	}
}

func TestJournalHasEachCallThatIsOK(t *testing.T) {
	d := begin(t, answers(10)...)
	want := ""
	d.trigger(1, 1)
	want += call{'T', 1, 0}.record()
	d.journals(want)
	d.triggerFails(3, api.ErrDevice)
	d.ack(1, 1, api.ErrQueue)
	d.drainFails(0, api.ErrEmpty)
	d.drainFails(-1, api.ErrDevice)
	d.tickIs(0, api.ErrTime)
	d.tickIs(1000, api.ErrTime)
	d.ack(1, 2, api.ErrWait)
	d.ack(2, 1, api.ErrRun)
	d.cancel(2, api.ErrRun)
	d.journals(want)
	d.drain(msg(1, 1, 1, 0))
	want += call{'D', 1, 0}.record()
	d.journals(want)
	d.tick(9)
	want += call{'K', 9, 0}.record()
	d.journals(want)
	d.ack(1, 1, api.OK)
	want += call{'A', 1, 1}.record()
	d.journals(want)
	d.cancel(1, api.OK)
	want += call{'C', 1, 0}.record()
	d.h.Show()
	d.journals(want)
	d.tick(999)
	d.trigger(0, 2)
	d.journals(want + journalOf(call{'K', 999, 0}, call{'T', 0, 0}))
}

// An error leaves the journal as it was, whatever the numbers are; and a call that is OK has its own numbers in it.
func TestJournalOfStrangeNumbers(t *testing.T) {
	for _, list := range []code{nil, {send(0), ask(1, 5, 0)}, {send(0), send(1), wait(9)}, tries, answers(10)} {
		d := begin(t, list...)
		want := ""
		for _, first := range strangeNumbers {
			for _, second := range strangeNumbers {
				for _, name := range []byte("TKACD") {
					c := call{name, first, second}
					if name != 'A' {
						c.second = 0
					}
					answer := c.ofHerald(d.h)
					if isOK(answer) {
						want += c.record()
					}
				}
				d.journals(want)
			}
		}
		opens(t, list, want, len(want)/19)
	}
}

// A journal that came out stays as it is, whatever is called behind it.
func TestJournalOfRandomCalls(t *testing.T) {
	chance := rand.New(rand.NewSource(11))
	for i := 0; i < 300; i++ {
		d := begin(t, randomCode(chance)...)
		var made []call
		var kept []string
		for j := 0; j < 40; j++ {
			c := randomCall(chance, d.h.Show())
			if isOK(c.ofHerald(d.h)) {
				made = append(made, c)
				kept = append(kept, d.h.Journal())
			}
			d.journals(journalOf(made...))
		}
		for j := range kept {
			if kept[j] != journalOf(made[:j+1]...) {
				t.Fatalf("P2: the journal behind %d calls became %x", j+1, kept[j])
			}
		}
	}
}

func TestJournalOfGreatNumbers(t *testing.T) {
	const runs = 66000
	list := code{wait(9)}
	d := begin(t, list...)
	var made []call
	for id := 1; id <= runs; id++ {
		d.trigger(0, id)
		d.cancel(id, api.OK)
		made = append(made, call{'T', 0, 0}, call{'C', id, 0})
	}
	d.journals(journalOf(made...))
	opens(t, list, d.h.Journal(), 2*runs).trigger(0, runs+1)
	// 100 rounds of 999 messages
	list = code{set(1, 100), set(0, 999), send(1), loop(0, 2), wait(1), loop(1, 1), ask(0, 9, 8), wait(7)}
	d = begin(t, list...)
	d.trigger(0, 1)
	d.tick(100)
	d.drain(msg(0, 1, 99900, 1))
	d.drain(msg(0, 1, 99901, 0))
	d.ack(1, 99901, api.OK)
	want := journalOf(call{'T', 0, 0}, call{'K', 100, 0}, call{'D', 0, 0}, call{'D', 0, 0}, call{'A', 1, 99901})
	d.journals(want)
	opens(t, list, want, 5).shows(100, []api.Run{run(1, 0, 99901, 107, 0)})
}

// ahead is a journal of four records, behind which run 1 waits for an answer, and the message of run 2 is in its queue.
var ahead = []call{{'T', 1, 0}, {'D', 1, 0}, {'T', 0, 0}, {'K', 3, 0}}

// stopsThere opens a journal that goes on with what does not stand, and then with what would.
func stopsThere(t *testing.T, wrong string) {
	t.Helper()
	for _, tail := range []string{"", journalOf(call{'T', 2, 0}, call{'K', 1, 0})} {
		d := opens(t, answers(10), journalOf(ahead...)+wrong+tail, 4)
		d.shows(3, []api.Run{run(1, 1, 1, 10, 1), run(2, 0, 1, 10, 1)}, msg(0, 2, 1, 0))
		d.trigger(2, 3)
		d.ack(1, 1, api.OK)
		d.journals(journalOf(ahead...) + journalOf(call{'T', 2, 0}, call{'A', 1, 1}))
	}
}

func TestOpenMakesTheCalls(t *testing.T) {
	list := answers(10)
	d := opens(t, list, "", 0)
	d.shows(0, nil)
	d.trigger(2, 1)
	opens(t, nil, "", 0).trigger(0, 1)
	all := append(slices.Clone(ahead), call{'A', 1, 1}, call{'D', 0, 0}, call{'C', 2, 0}, call{'T', 0, 0})
	d = opens(t, list, journalOf(all...), 8)
	d.shows(3, []api.Run{run(1, 1, 2, 4, 0), run(3, 0, 1, 13, 1)}, msg(0, 3, 1, 0), msg(1, 1, 2, 1))
	d.trigger(0, 4)
	d.tick(1)
	d.shows(4, []api.Run{run(3, 0, 1, 13, 1), run(4, 0, 1, 13, 1)}, msg(0, 3, 1, 0), msg(0, 4, 1, 0), msg(1, 1, 2, 1))
	d.journals(journalOf(append(all, call{'T', 0, 0}, call{'K', 1, 0})...))
}

func TestOpenStopsAtCallsThatAreNotOK(t *testing.T) {
	for _, c := range []call{
		{'T', 3, 0}, {'T', -1, 0}, {'T', 1 << 8, 0}, {'T', 1 << 32, 0}, {'T', 1 << 56, 0}, {'T', -1 << 63, 0}, {'T', 1<<63 - 1, 0},
		{'K', 0, 0}, {'K', 1000, 0}, {'K', -1, 0}, {'K', 1<<32 + 5, 0}, {'K', -1<<63 + 5, 0},
		{'A', 2, 1}, {'A', 1, 2}, {'A', 1, 0}, {'A', 3, 1}, {'A', 0, 0}, {'A', 0, 1}, {'A', -1, 1}, {'A', 1, -1}, {'A', 1<<32 + 1, 1}, {'A', 1, 1<<32 + 1}, {'A', -1<<63 + 1, 1}, {'A', 1, -1<<63 + 1},
		{'C', 0, 0}, {'C', 3, 0}, {'C', -1, 0}, {'C', 1<<32 + 1, 0}, {'C', -1<<63 + 1, 0},
		{'D', 1, 0}, {'D', 2, 0}, {'D', 3, 0}, {'D', -1, 0}, {'D', 1 << 32, 0}, {'D', -1 << 63, 0},
	} {
		stopsThere(t, c.record())
	}
	full := strings.Repeat(call{'T', 0, 0}.record(), 6)
	opens(t, answers(10), full, api.MaxRuns).triggerFails(0, api.ErrRuns)
}

func TestOpenStopsAtArgumentsThatAreNone(t *testing.T) {
	for _, c := range []call{{'T', 2, 0}, {'K', 1, 0}, {'C', 1, 0}, {'D', 0, 0}} {
		opens(t, answers(10), journalOf(ahead...)+c.record(), 5)
		for _, second := range []int{1, 2, 255, 256, 1 << 32, 1 << 56, -1, -1 << 63, 1<<63 - 1, c.first} {
			if second != 0 {
				c.second = second
				stopsThere(t, c.record())
			}
		}
	}
}

func TestOpenStopsAtCallsThatAreNone(t *testing.T) {
	for name := 0; name < 256; name++ {
		if strings.IndexByte("TKACD", byte(name)) >= 0 {
			continue
		}
		for _, c := range []call{{byte(name), 0, 0}, {byte(name), 1, 0}, {byte(name), 2, 0}, {byte(name), 1, 1}} {
			stopsThere(t, c.record())
		}
	}
}

func TestOpenStopsAtOtherChecks(t *testing.T) {
	for _, c := range []call{{'T', 2, 0}, {'K', 1, 0}, {'A', 1, 1}, {'C', 1, 0}, {'D', 0, 0}} {
		right := c.record()
		opens(t, answers(10), journalOf(ahead...)+right, 5)
		head, high, low := right[:17], right[17], right[18]
		turned := string([]byte{head[0] ^ 255, head[1] ^ 255}) + head[2:] // the check, if the first bits were not turned over
		for _, check := range []string{
			"\x00\x00", "\xff\xff", string([]byte{low, high}), string([]byte{^high, ^low}), checkOf(turned), checkOf(right),
			string([]byte{high, low + 1}), string([]byte{high + 1, low}), string([]byte{high, 0}), string([]byte{0, low}),
		} {
			if check != right[17:] {
				stopsThere(t, head+check)
			}
		}
		stopsThere(t, right[:9]+right[9:17]+right[16:18]) // a byte too much ahead of the check
	}
	// the low byte first
	stopsThere(t, checked("K\x01"+strings.Repeat("\x00", 15)))
}

// A record that is cut is none, and what stands behind it is not where records are.
func TestOpenStopsAtRecordsThatAreNotWhole(t *testing.T) {
	one := call{'K', 1, 0}.record()
	for end := 1; end < len(one); end++ {
		stopsThere(t, one[:end])
		stopsThere(t, one[end:])
	}
	stopsThere(t, "\n"+one)
	stopsThere(t, "\x00")
}

func TestOpenOfCodeThatIsNotSound(t *testing.T) {
	long := make(code, api.MaxCode+1)
	for _, list := range []code{{{Op: 9}}, {{Op: -1}}, {send(8)}, {wait(0)}, {jump(2)}, {{Op: api.End, A: 1}}, long} {
		for _, journal := range []string{"", "x", journalOf(ahead...), strings.Repeat("\x00", 1000)} {
			h, made, fault := herald.Open(list, journal)
			if h != nil || made != 0 || fault != api.ErrCode {
				t.Errorf("P11: Open of %d instructions that are not sound = %v, %d, %d", len(list), h, made, fault)
			}
		}
	}
	opens(t, long[1:], journalOf(call{'T', 0, 0}), 1)
}

func TestOpenOfStrangeBytes(t *testing.T) {
	list := answers(10)
	for _, bytes := range []string{strings.Repeat("\x00", 10000000), strings.Repeat("T", 1900), strings.Repeat("\xff", 19), "TKACD", "\n", strings.Repeat("\x00", 19)} {
		opens(t, list, bytes, 0)
	}
	chance := rand.New(rand.NewSource(12))
	for i := 0; i < 20000; i++ {
		bytes := make([]byte, chance.Intn(100))
		chance.Read(bytes)
		if len(bytes) >= 19 && checkOf(string(bytes[:17])) == string(bytes[17:19]) {
			continue
		}
		opens(t, list, string(bytes), 0)
		opens(t, list, journalOf(ahead...)+string(bytes), 4)
		if len(bytes) >= 17 { // the right check alone makes no record
			opens(t, list, checked(string(bytes[:17])), 0)
		}
	}
}

func TestOpenUpToMaxTime(t *testing.T) {
	list := code{wait(2), send(0), wait(2)}
	ticks := (api.MaxTime - 1) / api.MaxTick
	all := strings.Repeat(call{'K', api.MaxTick, 0}.record(), ticks)
	for _, last := range []int{2, api.MaxTick} {
		d := opens(t, list, all+call{'K', last, 0}.record()+call{'K', 1, 0}.record(), ticks)
		d.shows(api.MaxTime-1, nil)
		d.tickIs(2, api.ErrTime)
	}
	one := call{'K', 1, 0}.record()
	d := opens(t, list, all+call{'T', 0, 0}.record()+one+one, ticks+2)
	d.shows(api.MaxTime, []api.Run{run(1, 0, 0, api.MaxTime+1, 0)})
	d.tickIs(1, api.ErrTime)
}

// The most that a record may ask for.
func TestOpenOfHeavyRecordsEnds(t *testing.T) {
	list := append(busy(nil, api.MaxSteps-2), wait(1), jump(0))
	journal := strings.Repeat(call{'T', 0, 0}.record(), api.MaxRuns) + strings.Repeat(call{'K', api.MaxTick, 0}.record(), 2)
	d := opens(t, list, journal, api.MaxRuns+2)
	d.shows(1998, []api.Run{run(1, 0, 0, 1999, 0), run(2, 0, 0, 1999, 0), run(3, 0, 0, 1999, 0), run(4, 0, 0, 1999, 0), run(5, 0, 0, 1999, 0)})
}

func TestOpenKeepsAndChangesNothingOfItsCode(t *testing.T) {
	whole := code{{Op: 99, A: 1}, send(1), wait(3), send(2), wait(4), {Op: 55, B: 7}, {Op: 56, C: 8}}
	given := slices.Clone(whole)
	d := opens(t, given[1:5], journalOf(call{'T', 0, 0}, call{'K', 1, 0}), 2) // spare room ahead and behind
	if !slices.Equal(given, whole) {
		t.Errorf("P2: the code became %v", given)
	}
	spoilCode(given)
	d.tick(2)
	d.shows(3, []api.Run{run(1, 0, 2, 7, 0)}, msg(0, 1, 1, 1), msg(0, 1, 2, 2))
	d.trigger(1, 2)
	d.shows(3, []api.Run{run(1, 0, 2, 7, 0), run(2, 1, 1, 6, 0)}, msg(0, 1, 1, 1), msg(0, 1, 2, 2), msg(1, 2, 1, 1))
	wrong := code{send(1), send(9), send(2)}
	herald.Open(wrong[:2], journalOf(ahead...))
	if !slices.Equal(wrong, code{send(1), send(9), send(2)}) {
		t.Errorf("P2: the code became %v", wrong)
	}
}

// Heralds that are opened with the journal of another know nothing of it, nor of one another.
func TestOpenedHeraldsStandAlone(t *testing.T) {
	list := code{send(0), send(1), wait(5), send(2), wait(5)}
	a := begin(t, list...)
	a.trigger(0, 1)
	journal := a.h.Journal()
	b := opens(t, list, journal, 1)
	c := opens(t, list, journal, 1)
	a.tick(5)
	b.cancel(1, api.OK)
	c.drain(msg(0, 1, 1, 0))
	a.journals(journal + call{'K', 5, 0}.record())
	b.journals(journal + call{'C', 1, 0}.record())
	c.journals(journal + call{'D', 0, 0}.record())
	a.shows(5, []api.Run{run(1, 0, 3, 10, 0)}, msg(0, 1, 1, 0), msg(0, 1, 2, 1), msg(0, 1, 3, 2))
	b.shows(0, nil)
	c.shows(0, []api.Run{run(1, 0, 2, 5, 0)}, msg(0, 1, 2, 1))
	opens(t, list, journal, 1).shows(0, []api.Run{run(1, 0, 2, 5, 0)}, msg(0, 1, 1, 0), msg(0, 1, 2, 1))
}
