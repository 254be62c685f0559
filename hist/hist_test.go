package hist_test

import (
	"bytes"
	"errors"
	"math"
	"slices"
	"strings"
	"testing"

	"umpire/api"
	"umpire/event"
	"umpire/hist"
	"umpire/testkit"
	"umpire/word"
)

// sample is the history of the chapter's examples.
func sample() api.History {
	return api.History{
		Objects: []api.Object{{Kind: api.ORegister, Init: 5}, {Kind: api.OQueue}},
		Events: []api.Event{
			{Kind: api.EBegin, Tx: 1}, {Kind: api.ECall, Tx: 1, Op: api.OpRead},
			{Kind: api.EReturn, Tx: 1, Ret: api.RVal, Val: 5}, {Kind: api.ETry, Tx: 1},
		},
	}
}

const sampleText = "umpire\nobject register 5\nobject queue\nbegin 1 0\ncall 1 0 read\nreturn 1 val 5\ntry 1\n"

var sampleBytes = []byte{85, 49, 4, 2, 10, 6, 8, 2, 2, 0, 4, 2, 0, 2, 6, 2, 6, 10, 8, 2}

// isAt tells whether err is a *api.At with that place, right around want.
func isAt(err error, pos int, want error) bool {
	at, ok := err.(*api.At)
	return ok && at.Pos == pos && at.Err == want && errors.Is(err, want)
}

// fits tells whether err is want: alone, if pos is -1, else at that place.
func fits(err error, pos int, want error) bool {
	if pos < 0 || want == nil {
		return err == want
	}
	return isAt(err, pos, want)
}

// objects is n queues.
func objects(n int) []api.Object { return slices.Repeat([]api.Object{{Kind: api.OQueue}}, n) }

// tries is n events.
func tries(n int) []api.Event { return slices.Repeat([]api.Event{{Kind: api.ETry, Tx: 1}}, n) }

// P3.1
func TestValid(t *testing.T) {
	queue, bad := api.Object{Kind: api.OQueue}, api.Object{Kind: api.OQueue, Init: 1}
	try, none := api.Event{Kind: api.ETry, Tx: 1}, api.Event{Kind: api.ETry}
	call := func(obj, op int) api.Event { return api.Event{Kind: api.ECall, Tx: 1, Obj: obj, Op: op} }
	for name, c := range map[string]struct {
		h    api.History
		pos  int
		want error
	}{
		"empty":               {api.History{}, -1, nil},
		"sample":              {sample(), -1, nil},
		"all objects, events": {api.History{Objects: objects(8), Events: tries(400)}, -1, nil},
		"nine objects":        {api.History{Objects: objects(9)}, -1, api.ErrMany},
		"401 events":          {api.History{Events: tries(401)}, -1, api.ErrMany},
		"nine bad objects":    {api.History{Objects: slices.Repeat([]api.Object{bad}, 9)}, -1, api.ErrMany},
		"a bad object, 401":   {api.History{Objects: []api.Object{bad}, Events: tries(401)}, -1, api.ErrMany},
		"second object":       {api.History{Objects: []api.Object{queue, bad, bad}}, 1, api.ErrObject},
		"object of no kind":   {api.History{Objects: []api.Object{{}}}, 0, api.ErrObject},
		"object, then event":  {api.History{Objects: []api.Object{queue, {Kind: 9}}, Events: []api.Event{none}}, 1, api.ErrObject},
		"event":               {api.History{Events: []api.Event{try, try, none}}, 2, api.ErrEvent},
		"code":                {api.History{Events: []api.Event{try, {Kind: 8, Tx: 1}, none}}, 1, api.ErrCode},
		"no such object":      {api.History{Events: []api.Event{call(0, api.OpRead)}}, 0, api.ErrObject},
		"one object further":  {api.History{Objects: []api.Object{queue}, Events: []api.Event{try, call(1, api.OpDeq)}}, 1, api.ErrObject},
		"the queue's read":    {api.History{Objects: sample().Objects, Events: []api.Event{call(1, api.OpRead)}}, 0, api.ErrOp},
		"the register's get":  {api.History{Objects: sample().Objects, Events: []api.Event{try, call(0, api.OpGet)}}, 1, api.ErrOp},
		"no operation":        {api.History{Objects: sample().Objects, Events: []api.Event{call(5, 0)}}, 0, api.ErrCode},
		"object out of reach": {api.History{Objects: sample().Objects, Events: []api.Event{call(math.MaxInt, api.OpRead)}}, 0, api.ErrEvent},
		"object below 0":      {api.History{Objects: sample().Objects, Events: []api.Event{call(-1, api.OpRead)}}, 0, api.ErrEvent},
		"just not begun":      {api.History{Events: []api.Event{{Kind: api.ECommit, Tx: 7}, {Kind: api.EReturn, Tx: 7, Ret: api.ROK}}}, -1, nil},
	} {
		if err := hist.Valid(c.h); !fits(err, c.pos, c.want) {
			t.Errorf("%s: Valid = %v, not %d: %v", name, err, c.pos, c.want)
		}
		if text, err := hist.Text(c.h); !fits(err, c.pos, c.want) || err != nil && len(text) > 0 {
			t.Errorf("%s: Text = %q, %v", name, text, err)
		}
		if b, err := hist.Binary(c.h); !fits(err, c.pos, c.want) || err != nil && len(b) > 0 {
			t.Errorf("%s: Binary = %v, %v", name, b, err)
		}
	}
}

// P3.2, P3.4
func TestForms(t *testing.T) {
	if text, err := hist.Text(sample()); string(text) != sampleText || err != nil {
		t.Errorf("Text = %q, %v", text, err)
	}
	if text, err := hist.Text(api.History{}); string(text) != "umpire\n" || err != nil {
		t.Errorf("Text of the empty history = %q, %v", text, err)
	}
	if b, err := hist.Binary(sample()); !bytes.Equal(b, sampleBytes) || err != nil {
		t.Errorf("Binary = %v, %v", b, err)
	}
	if b, err := hist.Binary(api.History{}); !bytes.Equal(b, []byte{85, 49, 0, 0}) || err != nil {
		t.Errorf("Binary of the empty history = %v, %v", b, err)
	}
}

// P3.3
func TestParse(t *testing.T) {
	for text, want := range map[string]api.History{
		sampleText:                               sample(),
		"# x\n\n umpire\nobject  map":            {Objects: []api.Object{{Kind: api.OMap}}},
		"umpire":                                 {},
		"\n\n  #\numpire \n":                     {},
		"umpire\ntry 1\n# object map\n  \ntry 1": {Events: tries(2)},
		"umpire\n" + strings.Repeat("object queue\n", 8) + strings.Repeat("try 1\n", 400): {Objects: objects(8), Events: tries(400)},
	} {
		if h, err := hist.Parse([]byte(text)); !hist.Same(h, want) || err != nil {
			t.Errorf("Parse(%.60q) = %+v, %v", text, h, err)
		}
	}
}

// P3.3
func TestParseFaults(t *testing.T) {
	for text, c := range map[string]struct {
		pos  int
		want error
	}{
		"":                                  {-1, api.ErrEnd},
		"\n  \n# umpire\n":                  {-1, api.ErrEnd},
		"umpires":                           {1, api.ErrWord},
		"\n#\nUmpire":                       {3, api.ErrWord},
		"umpire 1":                          {1, api.ErrWord},
		"umpire umpire":                     {1, api.ErrWord},
		"object map\numpire":                {1, api.ErrWord},
		"umpire\numpire":                    {2, api.ErrWord},
		"umpire\ntry 1\nobject map":         {3, api.ErrOrder},
		"umpire\ntry 1\nobject mop":         {3, api.ErrWord},
		"umpire\ntry 1\nobject register":    {3, api.ErrWords},
		"umpire\ntry":                       {2, api.ErrWords},
		"umpire\n\ntry x\ntry":              {3, api.ErrNumber},
		"umpire\njump":                      {2, api.ErrWord},
		"umpire\nobjects map":               {2, api.ErrWord},
		"umpire\nobject":                    {2, api.ErrWords},
		"umpire\nobject register x":         {2, api.ErrNumber},
		"umpire\ntry 0":                     {2, api.ErrEvent},
		"umpire\ncall 1 0 read":             {0, api.ErrObject},
		"umpire\n\n\ntry 1\ncall 1 0 read":  {1, api.ErrObject},
		"umpire\nobject map\ncall 1 0 read": {0, api.ErrOp},
		"umpire\ncall 1 0 read\ntry":        {3, api.ErrWords},
		"umpire\n" + strings.Repeat("object queue\n", 9):                       {10, api.ErrMany},
		"umpire\n" + strings.Repeat("object queue\n", 8) + "object queue 1":    {10, api.ErrWords},
		"umpire\n" + strings.Repeat("object queue\n", 8) + "try 1\nobject map": {11, api.ErrOrder},
		"umpire\n" + strings.Repeat("try 1\n", 401):                            {402, api.ErrMany},
		"umpire\n" + strings.Repeat("try 1\n", 400) + "#\ntry x":               {403, api.ErrNumber},
		strings.Repeat(" ", api.MaxText+1):                                     {-1, api.ErrLong},
		"umpires" + strings.Repeat("\n", api.MaxText):                          {-1, api.ErrLong},
	} {
		if h, err := hist.Parse([]byte(text)); !fits(err, c.pos, c.want) || len(h.Objects)+len(h.Events) > 0 {
			t.Errorf("Parse(%.60q) = %+v, %v, not %d: %v", text, h, err, c.pos, c.want)
		}
	}
	longest := "umpire\n" + strings.Repeat("#", api.MaxText-7)
	if h, err := hist.Parse([]byte(longest)); err != nil || !hist.Same(h, api.History{}) {
		t.Errorf("Parse of a text of MaxText bytes = %v", err)
	}
}

// P3.5
func TestDecodeFaults(t *testing.T) {
	more := func(b ...byte) []byte { return append([]byte{85, 49}, b...) }
	big := word.Put(nil, api.MaxVal+1)
	for _, c := range []struct {
		b    []byte
		pos  int
		want error
	}{
		{nil, -1, api.ErrCode}, {[]byte{85}, -1, api.ErrCode}, {[]byte{49, 85, 0, 0}, -1, api.ErrCode}, {[]byte{85, 50, 0, 0}, -1, api.ErrCode}, {[]byte{117, 49, 0, 0}, -1, api.ErrCode},
		{more(), 2, api.ErrEnd}, {more(128), 2, api.ErrEnd}, {more(128, 0), 2, api.ErrLong}, {more(0), 3, api.ErrEnd}, {more(0, 128, 0), 3, api.ErrLong},
		{more(1), 2, api.ErrMany}, {more(18), 2, api.ErrMany}, {more(16), 3, api.ErrEnd}, {more(0, 1), 3, api.ErrMany}, {more(0, 162, 6), 3, api.ErrMany}, {more(0, 160, 6), 5, api.ErrEnd},
		{more(word.Put(nil, math.MinInt)...), 2, api.ErrMany}, {more(word.Put(nil, math.MaxInt)...), 2, api.ErrMany},
		{more(0, 0, 0), 4, api.ErrMore}, {more(0, 0, 128), 4, api.ErrMore},
		{more(2), 3, api.ErrEnd}, {more(2, 0), 3, api.ErrObject}, {more(2, 10), 3, api.ErrObject}, {more(4, 6, 1), 4, api.ErrObject}, {more(2, 128, 0), 3, api.ErrLong},
		{more(2, 2), 4, api.ErrEnd}, {more(2, 4, 128, 0), 4, api.ErrLong}, {more(4, 2, 128, 1, 12), 6, api.ErrObject},
		{more(0, 2, 16), 4, api.ErrCode}, {more(0, 4, 8, 2, 16), 6, api.ErrCode}, {more(0, 2), 4, api.ErrEnd}, {more(0, 2, 8), 4, api.ErrEnd}, {more(0, 4, 8, 2, 8, 128, 0), 6, api.ErrLong},
		{more(0, 2, 8, 0), 4, api.ErrEvent}, {more(0, 4, 8, 2, 8, 0, 5), 6, api.ErrEvent}, {more(0, 2, 4, 2, 0, 99), 4, api.ErrCode}, {more(0, 2, 4, 2, 0, 4), 4, api.ErrEnd}, {more(0, 2, 4, 2, 0, 20), 4, api.ErrCode},
		{more(0, 2, 4, 2, 0, 2), 0, api.ErrObject}, {more(2, 6, 4, 8, 2, 4, 2, 0, 2), 1, api.ErrOp}, {more(0, 2, 4, 2, 0, 2, 9), 8, api.ErrMore},
		{more(append(append([]byte{4, 6, 2}, big...), 0)...), 1, api.ErrObject}, {more(append(append([]byte{4, 6, 2}, big...), 0, 0)...), 5 + len(big) + 1, api.ErrMore},
	} {
		if h, err := hist.Decode(c.b); !fits(err, c.pos, c.want) || len(h.Objects)+len(h.Events) > 0 {
			t.Errorf("Decode(%v) = %+v, %v, not %d: %v", c.b, h, err, c.pos, c.want)
		}
	}
	for _, b := range [][]byte{sampleBytes, more(0, 0), more(2, 2, 127, 0)} {
		h, err := hist.Decode(b)
		if back, err2 := hist.Binary(h); err != nil || err2 != nil || !bytes.Equal(back, b) {
			t.Errorf("Decode(%v) = %+v, %v; Binary of it %v, %v", b, h, err, back, err2)
		}
	}
}

// P3.6
func TestSame(t *testing.T) {
	if !hist.Same(sample(), sample()) || !hist.Same(api.History{}, api.History{Objects: []api.Object{}, Events: []api.Event{}}) {
		t.Error("the same are not")
	}
	others := []func(h *api.History){
		func(h *api.History) { h.Objects[0].Init = 6 }, func(h *api.History) { h.Objects = h.Objects[:1] }, func(h *api.History) { h.Objects[0], h.Objects[1] = h.Objects[1], h.Objects[0] },
		func(h *api.History) { h.Objects[1].Kind = api.OMap }, func(h *api.History) { h.Objects = append(h.Objects, h.Objects[1]) }, func(h *api.History) { h.Events = h.Events[:3] },
		func(h *api.History) { h.Events = append(h.Events, h.Events[3]) }, func(h *api.History) { h.Events[0], h.Events[1] = h.Events[1], h.Events[0] }, func(h *api.History) { h.Objects = nil }, func(h *api.History) { h.Events = nil },
	}
	for _, set := range []func(e *api.Event, n int){
		func(e *api.Event, n int) { e.Kind += n }, func(e *api.Event, n int) { e.Tx += n }, func(e *api.Event, n int) { e.Thread += n }, func(e *api.Event, n int) { e.Obj += n },
		func(e *api.Event, n int) { e.Op += n }, func(e *api.Event, n int) { e.Key += n }, func(e *api.Event, n int) { e.Val += n }, func(e *api.Event, n int) { e.Ret += n },
	} {
		for i := range 4 {
			others = append(others, func(h *api.History) { set(&h.Events[i], 1) })
		}
	}
	for i, change := range others {
		h := sample()
		change(&h)
		if hist.Same(h, sample()) || hist.Same(sample(), h) {
			t.Errorf("change %d: the same still", i)
		}
	}
}

// P3.6, P0.4
func TestClone(t *testing.T) {
	h := sample()
	c, d := hist.Clone(h), hist.Clone(h)
	if !hist.Same(c, h) {
		t.Fatalf("Clone = %+v", c)
	}
	clear(c.Objects[:cap(c.Objects)])
	clear(c.Events[:cap(c.Events)])
	if !hist.Same(h, sample()) || !hist.Same(d, sample()) {
		t.Error("a clone shares memory")
	}
	if e := hist.Clone(api.History{}); len(e.Objects)+len(e.Events) != 0 {
		t.Errorf("Clone of nothing = %+v", e)
	}
	odd := api.History{Objects: []api.Object{{Kind: 77}}, Events: []api.Event{{Kind: -1, Val: math.MinInt}}}
	if !hist.Same(hist.Clone(odd), odd) {
		t.Error("Clone of what is not valid")
	}
}

// P3.2, P3.4, P0.4
func TestFormsAreNewMemory(t *testing.T) {
	text, _ := hist.Text(sample())
	text2, _ := hist.Text(sample())
	b, _ := hist.Binary(sample())
	b2, _ := hist.Binary(sample())
	clear(text[:cap(text)])
	clear(b[:cap(b)])
	if string(text2) != sampleText || !bytes.Equal(b2, sampleBytes) {
		t.Errorf("two answers share memory: %q, %v", text2, b2)
	}
	in := []byte(sampleText + "try 1 1")
	one, err := hist.Parse(in[:len(sampleText)])
	if err != nil || string(in) != sampleText+"try 1 1" {
		t.Error("Parse read or wrote behind the length", err)
	}
	clear(in)
	if !hist.Same(one, sample()) {
		t.Error("Parse kept what it was handed")
	}
	in = append(slices.Clone(sampleBytes), 1)
	two, err := hist.Decode(in[:len(sampleBytes)])
	clear(in)
	if err != nil || !hist.Same(two, sample()) {
		t.Error("Decode kept what it was handed, or read behind the length", err)
	}
}

// P3.7
func TestThereAndBack(t *testing.T) {
	dice := testkit.NewDice(3)
	for range 400 {
		h := testkit.Parts(dice, 60)
		text, err := hist.Text(h)
		back, err2 := hist.Parse(text)
		if err != nil || err2 != nil || !hist.Same(back, h) {
			t.Fatalf("%+v: Text %q, %v; Parse %+v, %v", h, text, err, back, err2)
		}
		b, err := hist.Binary(h)
		back, err2 = hist.Decode(b)
		if err != nil || err2 != nil || !hist.Same(back, h) {
			t.Fatalf("%+v: Binary %v, %v; Decode %+v, %v", h, b, err, back, err2)
		}
		if again, _ := hist.Text(back); !bytes.Equal(again, text) {
			t.Fatalf("Text, Parse, Binary, Decode, Text: %q, not %q", again, text)
		}
	}
}

// P3.7, P3.5: what Decode takes, of bytes with a fault or without, is Binary of it.
func TestDecodeOfAnyBytes(t *testing.T) {
	dice := testkit.NewDice(4)
	taken := 0
	for range 20000 {
		b, _ := hist.Binary(testkit.Parts(dice, 6))
		for range dice.Roll(3) {
			switch i := dice.Roll(len(b)); dice.Roll(3) {
			case 0:
				b[i] = byte(dice.Roll(256))
			case 1:
				b = slices.Insert(b, i, byte(dice.Roll(256)))
			case 2:
				b = slices.Delete(b, i, i+1)
			}
			if len(b) == 0 {
				break
			}
		}
		h, err := hist.Decode(b)
		if err != nil {
			continue
		}
		taken++
		if back, err := hist.Binary(h); !bytes.Equal(back, b) || err != nil {
			t.Fatalf("Decode(%v) = %+v, Binary of it %v, %v", b, h, back, err)
		}
	}
	if taken < 100 {
		t.Errorf("just %d taken", taken)
	}
}

// P3.3, P3.7: what Parse takes, of lines with a fault or without, is printed and parsed again the same.
func TestParseOfAnyText(t *testing.T) {
	dice := testkit.NewDice(5)
	letters := []byte("umpire object register queue 1234567890 -#\n\n  trycall\xff")
	taken := 0
	for range 20000 {
		text, _ := hist.Text(testkit.Parts(dice, 5))
		for range dice.Roll(3) {
			text = slices.Insert(text, dice.Roll(len(text)+1), testkit.Pick(dice, letters))
		}
		h, err := hist.Parse(text)
		if err != nil {
			continue
		}
		taken++
		again, err := hist.Text(h)
		back, err2 := hist.Parse(again)
		if err != nil || err2 != nil || !hist.Same(back, h) {
			t.Fatalf("Parse(%q) = %+v; Text %q, %v; Parse %+v, %v", text, h, again, err, back, err2)
		}
	}
	if taken < 100 {
		t.Errorf("just %d taken", taken)
	}
}

// P3.8
func TestWhatChangesNothing(t *testing.T) {
	dice := testkit.NewDice(6)
	for range 200 {
		h := testkit.Parts(dice, 20)
		text, _ := hist.Text(h)
		loose := "# a remark\n"
		for _, line := range word.Lines(text) {
			loose += "  " + strings.ReplaceAll(line, " ", "   ") + " \n\n   # " + line + "\n"
		}
		for _, s := range []string{loose, strings.TrimSuffix(string(text), "\n"), string(text) + "\n\n"} {
			if got, err := hist.Parse([]byte(s)); err != nil || !hist.Same(got, h) {
				t.Fatalf("Parse(%q) = %+v, %v", s, got, err)
			}
		}
	}
}

// P3.8
func TestUnlikeForms(t *testing.T) {
	seen := map[string]api.History{}
	dice := testkit.NewDice(7)
	for range 3000 {
		h := testkit.Parts(dice, 3)
		text, _ := hist.Text(h)
		b, _ := hist.Binary(h)
		for _, form := range []string{"text " + string(text), "bytes " + string(b)} {
			if other, ok := seen[form]; ok && !hist.Same(other, h) {
				t.Fatalf("%+v and %+v have one form", h, other)
			}
			seen[form] = h
		}
	}
}

// P3.1: what is valid by itself, event by event, is valid as a whole.
func TestValidOfParts(t *testing.T) {
	dice := testkit.NewDice(8)
	for range 300 {
		h := testkit.Parts(dice, 40)
		if err := hist.Valid(h); err != nil {
			t.Fatalf("Valid(%+v) = %v", h, err)
		}
		if len(h.Events) == 0 {
			continue
		}
		i := dice.Roll(len(h.Events))
		h.Events[i].Tx = 0
		want := event.Valid(h.Events[i])
		if err := hist.Valid(h); !isAt(err, i, want) || !isAt(err, i, api.ErrEvent) {
			t.Fatalf("Valid with a fault at %d = %v", i, err)
		}
	}
}
