package event_test

import (
	"bytes"
	"math"
	"slices"
	"strconv"
	"strings"
	"testing"

	"umpire/api"
	"umpire/event"
	"umpire/word"
)

// sayings is events with their lines and their bytes.
var sayings = []struct {
	e     api.Event
	line  string
	bytes []byte
}{
	{api.Event{Kind: api.EBegin, Tx: 3, Thread: 1}, "begin 3 1", []byte{2, 6, 2}},
	{api.Event{Kind: api.EBegin, Tx: 1}, "begin 1 0", []byte{2, 2, 0}},
	{api.Event{Kind: api.EBegin, Tx: 1000, Thread: 7}, "begin 1000 7", []byte{2, 208, 15, 14}},
	{api.Event{Kind: api.ECall, Tx: 3, Op: api.OpPut, Key: 7, Val: -5}, "call 3 0 put 7 -5", []byte{4, 6, 0, 14, 14, 9}},
	{api.Event{Kind: api.ECall, Tx: 3, Obj: 7, Op: api.OpLook, Key: 1000}, "call 3 7 look 1000", []byte{4, 6, 14, 16, 208, 15}},
	{api.Event{Kind: api.ECall, Tx: 3, Obj: 2, Op: api.OpDel}, "call 3 2 del 0", []byte{4, 6, 4, 18, 0}},
	{api.Event{Kind: api.ECall, Tx: 3, Op: api.OpRead}, "call 3 0 read", []byte{4, 6, 0, 2}},
	{api.Event{Kind: api.ECall, Tx: 3, Op: api.OpWrite, Val: 64}, "call 3 0 write 64", []byte{4, 6, 0, 4, 128, 1}},
	{api.Event{Kind: api.ECall, Tx: 3, Op: api.OpAdd, Val: -1}, "call 3 0 add -1", []byte{4, 6, 0, 6, 1}},
	{api.Event{Kind: api.ECall, Tx: 3, Op: api.OpGet}, "call 3 0 get", []byte{4, 6, 0, 8}},
	{api.Event{Kind: api.ECall, Tx: 3, Op: api.OpEnq}, "call 3 0 enq 0", []byte{4, 6, 0, 10, 0}},
	{api.Event{Kind: api.ECall, Tx: 3, Op: api.OpDeq}, "call 3 0 deq", []byte{4, 6, 0, 12}},
	{api.Event{Kind: api.EReturn, Tx: 3, Ret: api.RVal, Val: 5}, "return 3 val 5", []byte{6, 6, 6, 10}},
	{api.Event{Kind: api.EReturn, Tx: 3, Ret: api.RVal}, "return 3 val 0", []byte{6, 6, 6, 0}},
	{api.Event{Kind: api.EReturn, Tx: 3, Ret: api.ROK}, "return 3 ok", []byte{6, 6, 2}},
	{api.Event{Kind: api.EReturn, Tx: 3, Ret: api.RNone}, "return 3 none", []byte{6, 6, 4}},
	{api.Event{Kind: api.ETry, Tx: 3}, "try 3", []byte{8, 6}},
	{api.Event{Kind: api.ECommit, Tx: 3}, "commit 3", []byte{10, 6}},
	{api.Event{Kind: api.EAbort, Tx: 3}, "abort 3", []byte{12, 6}},
	{api.Event{Kind: api.ECancel, Tx: 3}, "cancel 3", []byte{14, 6}},
}

// P2.4, P2.6, P2.8
func TestSayings(t *testing.T) {
	for _, s := range sayings {
		if line, err := event.Line(s.e); line != s.line || err != nil {
			t.Errorf("Line(%+v) = %q, %v", s.e, line, err)
		}
		if e, err := event.Read(s.line); e != s.e || err != nil {
			t.Errorf("Read(%q) = %+v, %v", s.line, e, err)
		}
		if b, err := event.Bytes(s.e); !bytes.Equal(b, s.bytes) || err != nil {
			t.Errorf("Bytes(%+v) = %v, %v", s.e, b, err)
		}
		if e, size, err := event.From(s.bytes); e != s.e || size != len(s.bytes) || err != nil {
			t.Errorf("From(%v) = %+v, %d, %v", s.bytes, e, size, err)
		}
	}
}

// P2.4
func TestReadFaults(t *testing.T) {
	for line, want := range map[string]error{
		"": api.ErrWords, "   ": api.ErrWords,
		"tries 3": api.ErrWord, "Try 3": api.ErrWord, "object map": api.ErrWord, "# try 3": api.ErrWord, "jump": api.ErrWord,
		"try": api.ErrWords, "try 3 4": api.ErrWords, "try 0 4": api.ErrWords, "try x 4": api.ErrNumber, "try x": api.ErrNumber, "try +3": api.ErrNumber, "try 03": api.ErrNumber,
		"try 3000000000": api.ErrNumber, "try 0": api.ErrEvent, "try 1001": api.ErrEvent, "try -1": api.ErrEvent,
		"begin": api.ErrWords, "begin 3": api.ErrWords, "begin 3 8": api.ErrEvent, "begin 3 -1": api.ErrEvent, "begin 0 0": api.ErrEvent, "begin 3 x": api.ErrNumber, "begin 3 0 0": api.ErrWords,
		"call": api.ErrWords, "call 3": api.ErrWords, "call 3 0": api.ErrWords, "call 3 x": api.ErrNumber, "call x 0 jump": api.ErrNumber, "call 3 0 jump": api.ErrWord, "call 3 0 2": api.ErrWord,
		"call 3 0 jump 1 2 3": api.ErrWord, "call 3 0 read 5": api.ErrWords, "call 3 0 write": api.ErrWords, "call 3 0 write x": api.ErrNumber, "call 3 0 write 1 2": api.ErrWords,
		"call 3 0 put 1": api.ErrWords, "call 3 0 put x": api.ErrNumber, "call 3 0 put 1 x": api.ErrNumber, "call 3 0 put 1001 1": api.ErrEvent, "call 3 0 put -1 1": api.ErrEvent, "call 3 0 put 1 2 3": api.ErrWords,
		"call 3 0 look": api.ErrWords, "call 3 0 look 1 2": api.ErrWords, "call 3 8 read": api.ErrEvent, "call 0 8 read": api.ErrEvent, "call 3 0 ok": api.ErrWord,
		"call 3 0 write 1000000001": api.ErrNumber,
		"return":                    api.ErrWords, "return 3": api.ErrWords, "return 3 val": api.ErrWords, "return 3 val x": api.ErrNumber, "return 3 val 1 2": api.ErrWords, "return 3 ok 0": api.ErrWords, "return 3 none 0": api.ErrWords,
		"return 3 read": api.ErrWord, "return 3 1": api.ErrWord, "return 0 ok": api.ErrEvent,
		"commit": api.ErrWords, "abort 1 1": api.ErrWords, "cancel x": api.ErrNumber, "try\t3": api.ErrWord, "try 3\n": api.ErrNumber,
	} {
		if e, err := event.Read(line); e != (api.Event{}) || err != want {
			t.Errorf("Read(%q) = %+v, %v, not %v", line, e, err, want)
		}
	}
}

// P2.4, P2.8
func TestReadOfBlanks(t *testing.T) {
	for _, s := range sayings {
		for _, line := range []string{"  " + s.line, s.line + "   ", strings.ReplaceAll(s.line, " ", "   ")} {
			e, err := event.Read(line)
			if e != s.e || err != nil {
				t.Errorf("Read(%q) = %+v, %v", line, e, err)
			}
			if back, _ := event.Line(e); back != word.Join(word.Words(line)...) {
				t.Errorf("Line of Read(%q) = %q", line, back)
			}
		}
	}
}

// P2.5, P2.8
func TestObjects(t *testing.T) {
	for line, o := range map[string]api.Object{
		"object register 5": {Kind: api.ORegister, Init: 5}, "object register 0": {Kind: api.ORegister}, "object counter -1000000000": {Kind: api.OCounter, Init: -api.MaxVal},
		"object queue": {Kind: api.OQueue}, "object map": {Kind: api.OMap},
	} {
		if got, err := event.ObjectLine(o); got != line || err != nil {
			t.Errorf("ObjectLine(%+v) = %q, %v", o, got, err)
		}
		for _, l := range []string{line, "   " + strings.ReplaceAll(line, " ", "  ") + " "} {
			if got, err := event.ReadObject(l); got != o || err != nil {
				t.Errorf("ReadObject(%q) = %+v, %v", l, got, err)
			}
		}
	}
	for _, o := range []api.Object{{}, {Kind: 5}, {Kind: api.OQueue, Init: 1}, {Kind: api.OMap, Init: -1}, {Kind: api.ORegister, Init: api.MaxVal + 1}} {
		if line, err := event.ObjectLine(o); line != "" || err != api.ErrObject {
			t.Errorf("ObjectLine(%+v) = %q, %v", o, line, err)
		}
	}
}

// P2.5
func TestReadObjectFaults(t *testing.T) {
	for line, want := range map[string]error{
		"": api.ErrWords, "  ": api.ErrWords, "Object map": api.ErrWord, "map": api.ErrWord, "try 1": api.ErrWord, "object": api.ErrWords,
		"object heap": api.ErrWord, "object heap 1 2": api.ErrWord, "object Map": api.ErrWord, "object 1": api.ErrWord,
		"object queue 0": api.ErrWords, "object map x": api.ErrWords, "object queue 1 2": api.ErrWords,
		"object register": api.ErrWords, "object register 1 2": api.ErrWords, "object register x y": api.ErrWords, "object counter": api.ErrWords,
		"object register x": api.ErrNumber, "object counter 01": api.ErrNumber, "object counter 1000000001": api.ErrNumber, "object register +1": api.ErrNumber,
	} {
		if o, err := event.ReadObject(line); o != (api.Object{}) || err != want {
			t.Errorf("ReadObject(%q) = %+v, %v, not %v", line, o, err, want)
		}
	}
}

// P2.4, P2.6, P2.8
func TestThereAndBack(t *testing.T) {
	wrong := 0
	fail := func(format string, args ...any) {
		if wrong++; wrong < 10 {
			t.Errorf(format, args...)
		}
	}
	everyEvent(func(e api.Event) {
		line, err := event.Line(e)
		b, err2 := event.Bytes(e)
		if want := judged(e); want != nil {
			if line != "" || err != want || len(b) != 0 || err2 != want {
				fail("%+v: Line %q, %v; Bytes %v, %v", e, line, err, b, err2)
			}
			return
		}
		if back, err := event.Read(line); back != e || err != nil {
			fail("Read(%q) = %+v, %v", line, back, err)
		}
		for _, behind := range [][]byte{nil, {0}, {255}} {
			if back, size, err := event.From(append(slices.Clip(b), behind...)); back != e || size != len(b) || err != nil {
				fail("From(%v) = %+v, %d, %v", b, back, size, err)
			}
		}
		for short := range b {
			if back, size, err := event.From(b[:short]); back != (api.Event{}) || size != 0 || err != api.ErrEnd {
				fail("From(%v of %v) = %+v, %d, %v", b[:short], b, back, size, err)
			}
		}
	})
}

// P2.6
func TestFromFaults(t *testing.T) {
	long := bytes.Repeat([]byte{255}, 11)
	for _, c := range []struct {
		b    []byte
		want error
	}{
		{nil, api.ErrEnd}, {[]byte{128}, api.ErrEnd}, {long, api.ErrLong}, {[]byte{130, 0}, api.ErrLong}, {[]byte{8}, api.ErrEnd}, {[]byte{8, 128, 0}, api.ErrLong}, {[]byte{8, 134}, api.ErrEnd},
		{[]byte{16}, api.ErrCode}, {[]byte{0}, api.ErrCode}, {[]byte{1}, api.ErrCode}, {[]byte{16, 128, 0}, api.ErrCode}, {word.Put(nil, math.MaxInt), api.ErrCode}, {word.Put(nil, math.MinInt), api.ErrCode},
		{[]byte{8, 0}, api.ErrEvent}, {[]byte{8, 1}, api.ErrEvent}, {[]byte{2, 6, 16}, api.ErrEvent}, {[]byte{2, 6, 1}, api.ErrEvent}, {[]byte{2, 0}, api.ErrEnd},
		{[]byte{4, 6, 0, 20}, api.ErrCode}, {[]byte{4, 0, 99, 0}, api.ErrCode}, {[]byte{4, 6, 0, 1}, api.ErrCode}, {[]byte{4, 6, 0, 4}, api.ErrEnd}, {[]byte{4, 6, 0, 14, 2}, api.ErrEnd},
		{[]byte{4, 6, 16, 2}, api.ErrEvent}, {[]byte{4, 6, 0, 14, 1, 2}, api.ErrEvent}, {append([]byte{4, 6, 0, 4}, word.Put(nil, 1000000001)...), api.ErrEvent},
		{[]byte{6, 6, 8}, api.ErrCode}, {[]byte{6, 0, 0}, api.ErrCode}, {[]byte{6, 6, 6}, api.ErrEnd}, {[]byte{6, 6}, api.ErrEnd},
	} {
		if e, size, err := event.From(c.b); e != (api.Event{}) || size != 0 || err != c.want {
			t.Errorf("From(%v) = %+v, %d, %v, not %v", c.b, e, size, err, c.want)
		}
	}
	if e, size, err := event.From([]byte{8, 6, 1, 1}); e != (api.Event{Kind: api.ETry, Tx: 3}) || size != 2 || err != nil {
		t.Errorf("From(8 6 1 1) = %+v, %d, %v", e, size, err)
	}
}

// P2.8: what few bytes are taken as an event are just its bytes.
func TestBytesOfWhatFromTook(t *testing.T) {
	for first := range 16 {
		for i := range 1 << 16 {
			b := []byte{byte(first), byte(i), byte(i >> 8), 2, 4}
			e, size, err := event.From(b)
			if err != nil {
				continue
			}
			if back, err := event.Bytes(e); !bytes.Equal(back, b[:size]) || err != nil {
				t.Fatalf("From(%v) = %+v, %d; its Bytes %v, %v", b, e, size, back, err)
			}
		}
	}
}

// P2.7
func TestBytesAreNewMemory(t *testing.T) {
	e := sayings[3].e
	one, _ := event.Bytes(e)
	two, _ := event.Bytes(e)
	held := slices.Clone(two)
	clear(one[:cap(one)])
	if !bytes.Equal(two, held) {
		t.Error("two answers share memory")
	}
	b := append(slices.Clone(held), 1, 2, 3)
	kept := slices.Clone(b)
	if _, _, err := event.From(b); err != nil || !bytes.Equal(b, kept) {
		t.Error("From changed what it was handed", b)
	}
	if _, size, err := event.From(b[:len(held)-1]); size != 0 || err != api.ErrEnd {
		t.Error("From read behind the length", size, err)
	}
}

// P2.4: each number of a line is as chapter 1 reads it.
func TestNumbersOfLines(t *testing.T) {
	for _, n := range []int{1, 9, 10, 500, 999, 1000} {
		line := "commit " + strconv.Itoa(n)
		if e, err := event.Read(line); e.Tx != n || err != nil {
			t.Errorf("Read(%q) = %+v, %v", line, e, err)
		}
	}
}
