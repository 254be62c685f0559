package desk_test

import (
	"errors"
	"math"
	"slices"
	"strconv"
	"strings"
	"testing"

	"umpire/api"
	"umpire/cert"
	"umpire/clock"
	"umpire/cut"
	"umpire/desk"
	"umpire/fast"
	"umpire/hist"
	"umpire/latch"
	"umpire/late"
	"umpire/level"
	"umpire/prog"
	"umpire/sample"
	"umpire/shrink"
	"umpire/testkit"
)

func get(t *testing.T, name string) api.History {
	t.Helper()
	h, ok := sample.Get(name)
	if !ok {
		t.Fatal(name)
	}
	return h
}

// laid is a desk with the built-in histories, and chapter 21's program as p.
func laid(t *testing.T) *desk.Desk {
	t.Helper()
	d := desk.New()
	for name, h := range sample.Each() {
		if err := d.Put(name, h); err != nil {
			t.Fatal(name, err)
		}
	}
	p, _ := sample.Caught()
	if err := d.PutProgram("p", p); err != nil {
		t.Fatal(err)
	}
	return d
}

// fits tells whether err is want: alone, if pos is -1, else at that place.
func fits(err error, pos int, want error) bool {
	if pos < 0 || want == nil {
		return err == want
	}
	at, ok := err.(*api.At)
	return ok && at.Pos == pos && at.Err == want && errors.Is(err, want)
}

var wrongNames = []string{"", "A", "abcdefghi", "a1", "a b", "a ", "é", "a\n", "`", "{", "-", "_"}

// P23.1
func TestPutAndGet(t *testing.T) {
	d := desk.New()
	if len(d.Names()) != 0 {
		t.Error("a new desk keeps something")
	}
	for _, name := range []string{"z", "abcdefgh", "b", "a"} {
		if err := d.Put(name, get(t, "stale")); err != nil {
			t.Errorf("Put(%q) = %v", name, err)
		}
	}
	if err := d.Put("b", get(t, "torn")); err != nil {
		t.Error("Put again", err)
	}
	for name, which := range map[string]string{"a": "stale", "b": "torn", "z": "stale"} {
		if h, ok := d.Get(name); !ok || !hist.Same(h, get(t, which)) {
			t.Errorf("Get(%q) = %+v, %v", name, h, ok)
		}
	}
	if got := d.Names(); !slices.Equal(got, []string{"a", "abcdefgh", "b", "z"}) {
		t.Errorf("Names = %q", got)
	}
	for _, name := range append(wrongNames, "c", "abcdefg") {
		if h, ok := d.Get(name); ok || len(h.Objects)+len(h.Events) > 0 {
			t.Errorf("Get(%q) = %+v, %v", name, h, ok)
		}
	}
	// Put asks whether the parts are valid, not whether they are well-formed.
	if err := d.Put("odd", api.History{Events: []api.Event{{Kind: api.ECommit, Tx: 5}}}); err != nil {
		t.Error("Put of what is not well-formed", err)
	}
}

// P23.1
func TestPutFaults(t *testing.T) {
	d := laid(t)
	names := d.Names()
	bad := api.History{Events: []api.Event{{Kind: api.ETry, Tx: 1}, {Kind: 9}}}
	for _, name := range wrongNames {
		if err := d.Put(name, bad); err != api.ErrWord {
			t.Errorf("Put(%q) = %v", name, err)
		}
		if err := d.PutProgram(name, api.Program{}); err != api.ErrWord {
			t.Errorf("PutProgram(%q) = %v", name, err)
		}
	}
	if err := d.Put("stale", bad); !fits(err, 1, api.ErrCode) {
		t.Errorf("Put = %v", err)
	}
	if err := d.Put("x", api.History{Objects: make([]api.Object, 9)}); err != api.ErrMany {
		t.Errorf("Put = %v", err)
	}
	if err := d.PutProgram("p", api.Program{}); err != api.ErrProg {
		t.Errorf("PutProgram = %v", err)
	}
	if h, ok := d.Get("stale"); !ok || !hist.Same(h, get(t, "stale")) || !slices.Equal(d.Names(), names) {
		t.Error("beside an error something has changed", h, d.Names())
	}
	if got, err := d.Do("full clock p x"); err != nil || len(got) != 1 {
		t.Errorf("the program is gone: %q, %v", got, err)
	}
}

// P23.2: each command, and what it answers.
func TestCommands(t *testing.T) {
	for line, want := range map[string][]string{
		"judge stale serial 100":                 {"yes 2 1"},
		"judge stale strict 100":                 {"no"},
		"judge stale opaque 100":                 {"no at 8"},
		"judge early opaque 100":                 {"no at 6"},
		"judge early final 100":                  {"yes 1 2"},
		"judge plain opaque 100":                 {"yes"},
		"judge plain strict 100":                 {"yes 1 2"},
		"  judge   plain  strict  9":             {"yes 1 2"},
		"judge torn strict 100":                  {"yes 1"},
		"levels early 100":                       {"yes yes yes no"},
		"levels stale 100":                       {"yes no no no"},
		"levels stale 3":                         {"budget no no no"},
		"fast stale serial":                      nil, // it writes what it has not read
		"show stale":                             {"umpire", "object register 0", "begin 1 0", "call 1 0 write 1", "return 1 ok", "try 1", "commit 1", "begin 2 1", "call 2 0 read", "return 2 val 0", "try 2", "commit 2"},
		"list":                                   {"early", "plain", "stale", "torn"},
		"cert stale serial 2 1":                  {"taken"},
		"cert plain strict 1 -2":                 {"taken"},
		"cut stale 3 x":                          {"3"},
		"cut stale 0 stale":                      {"0"},
		"cut stale -5 x":                         {"0"},
		"cut stale 999 x":                        {"10"},
		"without stale 1 x":                      {"5"},
		"without stale -77 x":                    {"10"},
		"sample torn x":                          {"14"},
		"sample plain plain":                     {"25"},
		"shrink stale strict 100 x":              {"10 2"},
		"shrink torn final 100 x":                nil,
		"full clock p x":                         nil,
		"run latch p x":                          {"0"},
		"run late p x 1 1 1 0 0 0 0 0 0 0 0 1 1": {"12"},
	} {
		got, err := laid(t).Do(line)
		if want != nil && (err != nil || !slices.Equal(got, want)) {
			t.Errorf("Do(%q) = %q, %v, not %q", line, got, err, want)
		}
	}
}

// P23.2: the verdict's line of a history whose order is empty has the blank, too.
func TestEmptyOrder(t *testing.T) {
	d := desk.New()
	d.Put("e", api.History{})
	for line, want := range map[string]string{"judge e serial 1": "yes ", "judge e final 1": "yes ", "judge e opaque 1": "yes", "fast e strict": "yes ", "fast e opaque": "yes", "cert e serial": "taken"} {
		if got, err := d.Do(line); err != nil || !slices.Equal(got, []string{want}) {
			t.Errorf("Do(%q) = %q, %v", line, got, err)
		}
	}
	if got, err := d.Do("show e"); err != nil || !slices.Equal(got, []string{"umpire"}) {
		t.Errorf("show = %q, %v", got, err)
	}
	if got, err := desk.New().Do("list"); err != nil || len(got) != 0 {
		t.Errorf("list = %q, %v", got, err)
	}
}

// fastTexts is histories under the premise, and what fast answers at each level.
var fastTexts = []struct {
	text string
	want map[string]string
}{
	{"begin 1 0; begin 2 1; call 1 0 read; return 1 val 0; call 2 0 read; return 2 val 0; call 1 0 write 1; return 1 ok; call 2 0 write 2; return 2 ok; try 1; commit 1; try 2",
		map[string]string{"serial": "yes 1 -2", "strict": "yes 1 -2", "final": "yes -2 1", "opaque": "yes"}},
	{"begin 1 0; begin 2 1; call 1 0 read; return 1 val 0; call 2 0 read; return 2 val 0; call 1 0 write 1; return 1 ok; call 2 0 write 2; return 2 ok; try 1; commit 1; try 2; commit 2",
		map[string]string{"serial": "circle 1 2", "final": "circle 1 2", "opaque": "circle 1 2 at 14"}},
	{"begin 7 0; call 7 0 read; return 7 val 0; call 7 0 read; return 7 val 9; try 7; commit 7",
		map[string]string{"serial": "read 7 1", "strict": "read 7 1", "final": "read 7 1", "opaque": "read 7 1 at 5"}},
}

// P23.2
func TestFast(t *testing.T) {
	for _, c := range fastTexts {
		h, err := hist.Parse([]byte("umpire\nobject register 0\n" + strings.ReplaceAll(c.text, "; ", "\n")))
		if err != nil {
			t.Fatal(err)
		}
		d := desk.New()
		d.Put("h", h)
		for l, want := range c.want {
			if got, err := d.Do("fast h " + l); err != nil || !slices.Equal(got, []string{want}) {
				t.Errorf("fast at %s = %q, %v, not %q", l, got, err, want)
			}
		}
	}
}

// P23.2: what is kept.
func TestKept(t *testing.T) {
	p, schedule := sample.Caught()
	shrunk, _ := shrink.Run(get(t, "torn"), api.LFinal, 100)
	run := map[string]api.History{}
	run["clock"], _ = clock.Run(p, schedule)
	run["latch"], _ = latch.Run(p, schedule)
	run["late"], _ = late.Run(p, schedule)
	full := map[string]api.History{}
	full["clock"], _ = clock.Full(p, schedule)
	full["latch"], _ = latch.Full(p, schedule)
	full["late"], _ = late.Full(p, schedule)
	numbers := ""
	for _, n := range schedule {
		numbers += " " + strconv.Itoa(n)
	}
	lines := map[string]api.History{"cut torn 5 k": cut.Prefix(get(t, "torn"), 5), "without torn 1 k": cut.Without(get(t, "torn"), 1), "sample early k": get(t, "early"), "shrink torn final 100 k": shrunk}
	for name := range run {
		lines["run "+name+" p k"+numbers] = run[name]
		lines["full "+name+" p k"+numbers] = full[name]
	}
	for line, want := range lines {
		d := laid(t)
		d.Put("k", api.History{})
		got, err := d.Do(line)
		h, ok := d.Get("k")
		if err != nil || !ok || !hist.Same(h, want) || len(got) != 1 || strings.Fields(got[0])[0] != strconv.Itoa(len(want.Events)) {
			t.Errorf("Do(%q) = %q, %v, and keeps %+v, not %+v", line, got, err, h, want)
		}
		if torn, _ := d.Get("torn"); !hist.Same(torn, get(t, "torn")) {
			t.Errorf("Do(%q) changed what it asked for", line)
		}
	}
	if got, err := laid(t).Do("shrink torn final 100 torn"); err != nil || !slices.Equal(got, []string{"5 1"}) {
		t.Errorf("shrink = %q, %v", got, err)
	}
}

// P23.2: the order of faults.
func TestDoFaults(t *testing.T) {
	for line, want := range map[string]error{
		"": api.ErrWords, "    ": api.ErrWords, "jump": api.ErrWord, "Judge stale serial 5": api.ErrWord, "history a": api.ErrWord, "program a": api.ErrWord, "end": api.ErrWord, "# x": api.ErrWord,
		"judge": api.ErrWords, "judge stale serial": api.ErrWords, "judge x serial": api.ErrWords, "judge stale serial 5 6": api.ErrWords, "judge X heap y z": api.ErrWords, "judge X heap y": api.ErrWord, "judge stale heap y": api.ErrWord, "judge stale 1 5": api.ErrWord, "judge stale serial y": api.ErrNumber, "judge x serial y": api.ErrNumber, "judge x serial 5": api.ErrTx, "judge abcdefghi serial 5": api.ErrWord, "judge p serial 5": api.ErrTx,
		"judge stale serial 0": api.ErrIndex, "judge stale opaque 70000": api.ErrIndex, "judge stale serial 1": api.ErrBudget,
		"levels stale": api.ErrWords, "levels": api.ErrWords, "levels stale 5 5": api.ErrWords, "levels A 5": api.ErrWord, "levels stale x": api.ErrNumber, "levels x 5": api.ErrTx, "levels stale 0": api.ErrIndex,
		"fast stale": api.ErrWords, "fast stale serial 5": api.ErrWords, "fast A serial": api.ErrWord, "fast stale heap": api.ErrWord, "fast x serial": api.ErrTx, "fast stale serial": api.ErrPremise, "fast plain opaque": api.ErrPremise,
		"cert stale": api.ErrWords, "cert": api.ErrWords, "cert A serial x": api.ErrWord, "cert stale heap x": api.ErrWord, "cert x serial 1 y": api.ErrNumber, "cert x serial 1 0": api.ErrNumber, "cert x serial 1": api.ErrTx, "cert stale opaque 1": api.ErrLevel, "cert stale serial": api.ErrEnd,
		"shrink stale strict 100": api.ErrWords, "shrink stale strict 100 y z": api.ErrWords, "shrink A strict 100 y": api.ErrWord, "shrink stale heap 100 y": api.ErrWord, "shrink x strict z Y": api.ErrNumber, "shrink x strict 100 Y": api.ErrWord, "shrink x strict 100 y": api.ErrTx, "shrink stale serial 100 y": api.ErrHolds, "shrink stale strict 0 y": api.ErrIndex, "shrink stale strict 1 y": api.ErrBudget,
		"cut stale 5": api.ErrWords, "cut stale 5 y z": api.ErrWords, "cut A 5 y": api.ErrWord, "cut stale y y": api.ErrNumber, "cut x 5 Y": api.ErrWord, "cut x 5 y": api.ErrTx,
		"without stale 5": api.ErrWords, "without A x Y": api.ErrWord, "without stale x Y": api.ErrNumber, "without stale 5 Y": api.ErrWord, "without x 5 y": api.ErrTx,
		"sample stale": api.ErrWords, "sample stale y z": api.ErrWords, "sample Stale y": api.ErrWord, "sample x Y": api.ErrWord, "sample x y": api.ErrTx,
		"run late p": api.ErrWords, "run": api.ErrWords, "run heap p y": api.ErrWord, "run heap P y": api.ErrWord, "run late P y": api.ErrWord, "run late p Y x": api.ErrWord, "run late x y z": api.ErrNumber, "run late x y 1 1": api.ErrTx, "run late stale y": api.ErrTx, "run late p y 1 x": api.ErrNumber, "run late p y" + strings.Repeat(" 0", 301): api.ErrMany,
		"full late p": api.ErrWords, "full Late p y": api.ErrWord, "full clock x y": api.ErrTx, "full clock p y 01": api.ErrNumber, "full latch p y" + strings.Repeat(" 0", 301): api.ErrMany,
		"show": api.ErrWords, "show stale y": api.ErrWords, "show A": api.ErrWord, "show x": api.ErrTx, "list x": api.ErrWords,
	} {
		d := laid(t)
		got, err := d.Do(line)
		if err != want || len(got) != 0 {
			t.Errorf("Do(%.60q) = %q, %v, not %v", line, got, err, want)
		}
		if !slices.Equal(d.Names(), []string{"early", "plain", "stale", "torn"}) {
			t.Errorf("Do(%.60q), beside an error, keeps %q", line, d.Names())
		}
	}
	for line, want := range map[string]struct {
		pos int
		err error
	}{"cert stale serial 1 2": {1, api.ErrAnswer}, "cert stale serial 9": {0, api.ErrTx}, "cert stale serial -1": {0, api.ErrCert}, "judge odd serial 5": {0, api.ErrTx}, "shrink odd serial 5 y": {0, api.ErrTx}, "fast odd final": {0, api.ErrTx}, "levels odd 5": {0, api.ErrTx}} {
		d := laid(t)
		d.Put("odd", api.History{Events: []api.Event{{Kind: api.ECommit, Tx: 5}}})
		if got, err := d.Do(line); !fits(err, want.pos, want.err) || len(got) != 0 {
			t.Errorf("Do(%q) = %q, %v", line, got, err)
		}
	}
}

// P23.2: a history and a program may have one name; what is not well-formed may be shown, cut, and kept.
func TestNamesOfTheirOwn(t *testing.T) {
	d := laid(t)
	d.Put("p", get(t, "stale"))
	if got, err := d.Do("run late p p 0"); err != nil || !slices.Equal(got, []string{"1"}) {
		t.Errorf("run = %q, %v", got, err)
	}
	if got, err := d.Do("full clock p y"); err != nil || len(got) != 1 {
		t.Errorf("the program p is gone: %q, %v", got, err)
	}
	d.Put("odd", api.History{Events: []api.Event{{Kind: api.ECommit, Tx: 5}, {Kind: api.ETry, Tx: 6}}})
	for _, c := range [][2]string{{"cut odd 1 y", "1"}, {"without odd 5 z", "1"}} {
		if got, err := d.Do(c[0]); err != nil || !slices.Equal(got, []string{c[1]}) {
			t.Errorf("Do(%q) = %q, %v", c[0], got, err)
		}
	}
}

// P23.5
func TestWord(t *testing.T) {
	for _, err := range []error{api.ErrTx, api.ErrWord, &api.At{Pos: 3, Err: api.ErrNumber}, &api.At{Pos: 5, Err: &api.At{Pos: -1, Err: api.ErrEnd}}, errors.New("x")} {
		if got := desk.Word(err); got != err.Error() {
			t.Errorf("Word(%v) = %q", err, got)
		}
	}
	if got := desk.Word(nil); got != "" {
		t.Errorf("Word(nil) = %q", got)
	}
}

// P23.4, P23.7
func TestBatch(t *testing.T) {
	broken := api.History{Events: []api.Event{{Kind: api.ETry, Tx: 1}}}
	list := []api.History{get(t, "stale"), get(t, "early"), broken, {}, get(t, "plain")}
	for _, c := range []struct {
		level, most int
		want        []string
	}{
		{api.LSerial, 100, []string{"yes 2 1", "yes 1 2", "fault 0: no such transaction", "yes ", "yes 1 2"}},
		{api.LStrict, 100, []string{"no", "yes 1 2", "fault 0: no such transaction", "yes ", "yes 1 2"}},
		{api.LOpaque, 100, []string{"no at 8", "no at 6", "fault 0: no such transaction", "yes", "yes"}},
		{api.LSerial, 1, []string{"fault the search has seen too much", "fault the search has seen too much", "fault 0: no such transaction", "yes ", "fault the search has seen too much"}},
		{5, 100, slices.Repeat([]string{"fault no level"}, 5)}, {api.LOpaque, 0, slices.Repeat([]string{"fault there is none"}, 5)},
	} {
		for _, workers := range []int{1, 2, 16} {
			if got, err := desk.Batch(workers, list, c.level, c.most); err != nil || !slices.Equal(got, c.want) {
				t.Errorf("Batch at %d by %d = %q, %v, not %q", c.level, workers, got, err, c.want)
			}
		}
	}
	for workers, n := range map[int]int{0: 1, 17: 1, math.MinInt: 0, -1: 1001} {
		if got, err := desk.Batch(workers, make([]api.History, n), api.LSerial, 5); err != api.ErrIndex || len(got) != 0 {
			t.Errorf("Batch by %d = %q, %v", workers, got, err)
		}
	}
	if got, err := desk.Batch(3, make([]api.History, 1001), api.LSerial, 5); err != api.ErrMany || len(got) != 0 {
		t.Errorf("Batch of 1001 = %d, %v", len(got), err)
	}
	if got, err := desk.Batch(3, make([]api.History, 1000), api.LSerial, 5); err != nil || len(got) != 1000 || got[999] != "yes " {
		t.Errorf("Batch of 1000 = %d, %v", len(got), err)
	}
	if got, err := desk.Batch(3, nil, 99, -1); err != nil || len(got) != 0 {
		t.Errorf("Batch of nothing = %q, %v", got, err)
	}
}

// P23.6
func TestNewMemory(t *testing.T) {
	d := desk.New()
	h := get(t, "stale")
	d.Put("a", h)
	p, _ := sample.Caught()
	d.PutProgram("p", p)
	clear(h.Events)
	clear(h.Objects)
	clear(p.Cells)
	clear(p.Threads[0][0])
	g, _ := d.Get("a")
	clear(g.Events[:cap(g.Events)])
	clear(g.Objects[:cap(g.Objects)])
	if k, _ := d.Get("a"); !hist.Same(k, get(t, "stale")) {
		t.Error("a history that is kept shares memory", k)
	}
	if got, err := d.Do("run late p x 1 1 1 0 0 0 0 0 0 0 0 1 1"); err != nil || !slices.Equal(got, []string{"12"}) {
		t.Errorf("what was handed in is kept: %q, %v", got, err)
	}
	if x, _ := d.Get("x"); !slices.Contains(x.Events, api.Event{Kind: api.EReturn, Tx: 4, Ret: api.RVal, Val: 1}) {
		t.Error("what was handed in is kept", x)
	}
	for _, line := range []string{"list", "show a", "levels a 100"} {
		one, _ := d.Do(line)
		two, _ := d.Do(line)
		want := slices.Clone(two)
		clear(one[:cap(one)])
		if three, _ := d.Do(line); !slices.Equal(two, want) || !slices.Equal(three, want) {
			t.Errorf("%q: two answers share memory", line)
		}
	}
	names := d.Names()
	clear(names[:cap(names)])
	if !slices.Equal(d.Names(), []string{"a", "x"}) {
		t.Error("Names shares memory")
	}
	list := []api.History{get(t, "stale")}
	if _, err := desk.Batch(2, list, api.LSerial, 100); err != nil || !hist.Same(list[0], get(t, "stale")) {
		t.Error("Batch changed its list", err)
	}
}

// P23.7
func TestTwoDesks(t *testing.T) {
	a, b := desk.New(), desk.New()
	a.Do("sample stale x")
	b.Do("sample torn x")
	if got, err := a.Do("levels x 100"); err != nil || !slices.Equal(got, []string{"yes no no no"}) {
		t.Errorf("%q, %v", got, err)
	}
	if got, err := b.Do("levels x 100"); err != nil || !slices.Equal(got, []string{"yes yes no no"}) {
		t.Errorf("%q, %v", got, err)
	}
	for _, line := range []string{"judge x opaque 100", "levels x 100", "fast x serial", "cert x serial 2 1", "show x", "list", "judge x serial 1"} {
		a.Do(line)
		if h, _ := a.Get("x"); !hist.Same(h, get(t, "stale")) || !slices.Equal(a.Names(), []string{"x"}) {
			t.Errorf("%q changes something", line)
		}
	}
}

// P23.8
func TestFastAndJudge(t *testing.T) {
	dice := testkit.NewDice(1)
	words := []string{"serial", "strict", "final", "opaque"}
	counts := map[bool]int{}
	for range 300 {
		h := testkit.History(dice, testkit.Wish{Txs: 5, Events: 30, Threads: 3, Apart: dice.Often(90), Noise: 10})
		d := desk.New()
		d.Put("h", h)
		l := testkit.Pick(dice, words)
		said, err := d.Do("fast h " + l)
		judged, err2 := d.Do("judge h " + l + " 65536")
		if err2 != nil {
			t.Fatal(err2)
		}
		yes := strings.HasPrefix(judged[0], "yes")
		if err == nil && strings.HasPrefix(said[0], "yes") != yes || err != nil && fast.Premise(h) != api.ErrPremise {
			t.Fatalf("%+v at %s: fast %q, %v; judge %q", h, l, said, err, judged)
		}
		counts[yes]++
		kept, err := d.Do("shrink h " + l + " 65536 k")
		if yes != (err == api.ErrHolds) || !yes && err != nil {
			t.Fatalf("%+v at %s: shrink %q, %v", h, l, kept, err)
		}
		if again, err := d.Do("judge k " + l + " 65536"); !yes && (err != nil || !strings.HasPrefix(again[0], "no")) {
			t.Fatalf("%+v at %s: what was shrunk is %q, %v", h, l, again, err)
		}
	}
	if counts[true] < 50 || counts[false] < 50 {
		t.Error("too few of a kind", counts)
	}
}

// P23.2: the lines are those of what the layers answer.
func TestLinesOfTheLayers(t *testing.T) {
	dice := testkit.NewDice(2)
	words := []string{"serial", "strict", "final", "opaque"}
	for range 300 {
		h := testkit.History(dice, testkit.Wish{Txs: 5, Events: 30, Threads: 3, Noise: 10})
		d := desk.New()
		d.Put("h", h)
		for i, l := range words {
			v, err := level.Judge(h, i+1, 100)
			got, err2 := d.Do("judge h " + l + " 100")
			want := "no"
			switch {
			case v.Yes && l == "opaque":
				want = "yes"
			case v.Yes:
				want = "yes " + cert.Line(v.Steps)
			case l == "opaque":
				want = "no at " + strconv.Itoa(v.Prefix)
			}
			if err != err2 || err == nil && !slices.Equal(got, []string{want}) {
				t.Fatalf("%+v at %s: %q, %v, not %q", h, l, got, err2, want)
			}
			if v.Yes && l != "opaque" {
				if got, err := d.Do("cert h " + l + " " + cert.Line(v.Steps)); err != nil || !slices.Equal(got, []string{"taken"}) {
					t.Fatalf("%+v at %s: cert %q, %v", h, l, got, err)
				}
			}
		}
	}
}

// P23.2: engines by their words.
func TestEngines(t *testing.T) {
	dice := testkit.NewDice(3)
	for range 60 {
		p := testkit.Program(dice, 2)
		schedule := testkit.Schedule(dice, len(p.Threads), 60)
		line := ""
		for _, n := range schedule {
			line += " " + strconv.Itoa(n)
		}
		d := desk.New()
		d.PutProgram("p", p)
		for name, call := range map[string]func(p api.Program, schedule []int) (api.History, error){
			"run clock": clock.Run, "run latch": latch.Run, "run late": late.Run, "full clock": clock.Full, "full latch": latch.Full, "full late": late.Full,
		} {
			want, err := call(p, schedule)
			got, err2 := d.Do(name + " p k" + line)
			if k, _ := d.Get("k"); err != nil || err2 != nil || !hist.Same(k, want) || !slices.Equal(got, []string{strconv.Itoa(len(want.Events))}) {
				t.Fatalf("%s: %q, %v", name, got, err2)
			}
		}
		if text, err := prog.Text(p); err != nil || len(text) == 0 {
			t.Fatal(err)
		}
	}
}
