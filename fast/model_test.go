package fast_test

import (
	"slices"
	"testing"

	"umpire/api"
	"umpire/cert"
	"umpire/cut"
	"umpire/fast"
	"umpire/graph"
	"umpire/level"
	"umpire/play"
	"umpire/store"
	"umpire/testkit"
)

// A plain is a history at a level, looked at just as the chapter's words say it.
type plain struct {
	h      api.History
	level  int
	txs    []api.Tx
	looked map[int]int // 1: looked at
	taken  map[int]int // 1: taken
}

// version is the version of a register that a transaction reads.
func version(t api.Tx, obj int) (int, bool) {
	for _, d := range t.Deeds {
		if d.Obj == obj && d.Op == api.OpWrite {
			break
		}
		if d.Obj == obj && d.Ret != 0 {
			return d.Got, true
		}
	}
	return 0, false
}

// writes is what a transaction writes to a register.
func writes(t api.Tx, obj int) (int, bool) {
	for _, d := range slices.Backward(t.Deeds) {
		if d.Obj == obj && d.Op == api.OpWrite && d.Ret != 0 {
			return d.Val, true
		}
	}
	return 0, false
}

// readsFrom tells whether b reads as its version of a register what a writes.
func readsFrom(a, b api.Tx, obj int) bool {
	w, ok := writes(a, obj)
	v, ok2 := version(b, obj)
	return ok && ok2 && v == w
}

func lookedAt(h api.History, l int) *plain {
	p := &plain{h: h, level: l, txs: testkit.Table(h), looked: map[int]int{}, taken: map[int]int{}}
	for range len(p.txs) + 1 {
		for _, t := range p.txs {
			if t.Status == api.TCommitted {
				p.taken[t.ID] = 1
			}
			if t.Status == api.TPending && slices.ContainsFunc(p.txs, func(b api.Tx) bool {
				return b.ID != t.ID && p.looked[b.ID] == 1 && (readsFrom(t, b, 0) || readsFrom(t, b, 1) || readsFrom(t, b, 2))
			}) {
				p.taken[t.ID] = 1
			}
			if l == api.LFinal || p.taken[t.ID] == 1 {
				p.looked[t.ID] = 1
			}
		}
	}
	return p
}

// explained tells whether the read at a place of a transaction's deeds is explained.
func (p *plain) explained(t api.Tx, at int) bool {
	d := t.Deeds[at]
	for _, own := range slices.Backward(t.Deeds[:at]) {
		if own.Obj == d.Obj && own.Op == api.OpWrite {
			return own.Val == d.Got
		}
	}
	v, _ := version(t, d.Obj)
	return v == d.Got && (v == p.h.Objects[d.Obj].Init || slices.ContainsFunc(p.txs, func(a api.Tx) bool {
		return a.ID != t.ID && p.taken[a.ID] == 1 && readsFrom(a, t, d.Obj)
	}))
}

// holds tells whether the chapter's words define that edge.
func (p *plain) holds(a, b api.Tx, kind int) bool {
	some := func(f func(obj int) bool) bool { return f(0) || f(1) || f(2) }
	switch kind {
	case api.GReal:
		return p.level != api.LSerial && a.End >= 0 && a.End < b.Begin
	case api.GFrom:
		return p.taken[a.ID] == 1 && some(func(obj int) bool { return readsFrom(a, b, obj) })
	case api.GWrite:
		return p.taken[a.ID] == 1 && p.taken[b.ID] == 1 && some(func(obj int) bool {
			_, ok := writes(b, obj)
			return ok && readsFrom(a, b, obj)
		})
	}
	return p.taken[b.ID] == 1 && some(func(obj int) bool {
		_, ok := writes(b, obj)
		v, okA := version(a, obj)
		w, okB := version(b, obj)
		return ok && okA && okB && v == w
	})
}

func (p *plain) graph() *graph.Graph[int] {
	g := graph.New[int]()
	for _, a := range p.txs {
		for _, b := range p.txs {
			if p.looked[a.ID] == 1 {
				g.Node(a.ID)
			}
			for kind := api.GReal; kind <= api.GAnti; kind++ {
				if a.ID != b.ID && p.looked[a.ID] == 1 && p.looked[b.ID] == 1 && p.holds(a, b, kind) {
					g.Edge(a.ID, b.ID, kind)
				}
			}
		}
	}
	return g
}

func (p *plain) judge() fast.Answer {
	for _, t := range p.txs {
		for at, d := range t.Deeds {
			if p.looked[t.ID] == 1 && d.Op == api.OpRead && d.Ret != 0 && !p.explained(t, at) {
				return fast.Answer{Kind: fast.Read, Tx: t.ID, Deed: at}
			}
		}
	}
	g := p.graph()
	if c := g.Cycle(); len(c) > 0 {
		return fast.Answer{Kind: fast.Circle, Cycle: c}
	}
	order, _ := g.Topo()
	a := fast.Answer{Kind: fast.Yes}
	for _, id := range order {
		a.Steps = append(a.Steps, api.Step{Tx: id, Commit: p.taken[id] == 1})
	}
	for _, t := range p.txs {
		if p.looked[t.ID] == 0 && t.Status == api.TPending {
			a.Steps = append(a.Steps, api.Step{Tx: t.ID})
		}
	}
	return a
}

// P15.2, P15.4: what is said is what the words say.
func TestAgainstTheWords(t *testing.T) {
	kinds := map[int]int{}
	some(1, 6000, func(dice *testkit.Dice, h api.History) {
		if err := fast.Premise(h); err != nil {
			t.Fatalf("%+v: Premise = %v", h, err)
		}
		l := 1 + dice.Roll(3)
		p := lookedAt(h, l)
		got, err := fast.Judge(h, l)
		if want := p.judge(); err != nil || !same(got, want) {
			t.Fatalf("%+v at %d: Judge = %+v, %v, not %+v", h, l, got, err, want)
		}
		kinds[got.Kind]++
		g, err := fast.Graph(h, l)
		if want := p.graph(); err != nil || !slices.Equal(g.Edges(), want.Edges()) || !slices.Equal(g.Nodes(), want.Nodes()) {
			t.Fatalf("%+v at %d: Graph = %v, %v, not %v", h, l, g.Edges(), err, want.Edges())
		}
		var taken []int
		for _, tx := range p.txs {
			if p.taken[tx.ID] == 1 {
				taken = append(taken, tx.ID)
			}
		}
		if ids, err := fast.Taken(h, l); err != nil || !slices.Equal(ids, taken) {
			t.Fatalf("%+v at %d: Taken = %v, %v, not %v", h, l, ids, err, taken)
		}
	})
	for kind := fast.Yes; kind <= fast.Circle; kind++ {
		if kinds[kind] < 100 {
			t.Errorf("just %d of kind %d", kinds[kind], kind)
		}
	}
}

// P15.3, P15.7, P15.8: the verdict is the search's; each yes is taken, each no is earned.
func TestTheSameVerdict(t *testing.T) {
	some(2, 700, func(dice *testkit.Dice, h api.History) {
		for l := api.LSerial; l <= api.LOpaque; l++ {
			got, err := fast.Judge(h, l)
			v, err2 := level.Judge(h, l, api.MaxMemo)
			if err != nil || err2 != nil || (got.Kind == fast.Yes) != v.Yes || got.Prefix != v.Prefix {
				t.Fatalf("%+v at %d: Judge = %+v, %v; the search %+v, %v", h, l, got, err, v, err2)
			}
			switch {
			case l == api.LOpaque && v.Yes:
				if err := cert.All(h, got.All); err != nil || len(got.Steps) > 0 {
					t.Fatalf("%+v: All of %+v = %v", h, got, err)
				}
			case l == api.LOpaque:
				want := lookedAt(cut.Prefix(h, got.Prefix), api.LFinal).judge()
				want.Prefix = got.Prefix
				if !same(got, want) || len(got.All) > 0 {
					t.Fatalf("%+v: Judge = %+v, not %+v", h, got, want)
				}
				earned(t, cut.Prefix(h, got.Prefix), api.LFinal, got)
			case v.Yes:
				if err := cert.Check(h, l, got.Steps); err != nil {
					t.Fatalf("%+v at %d: Check of %v = %v", h, l, got.Steps, err)
				}
			default:
				earned(t, h, l, got)
			}
		}
	})
}

// earned judges that a no bears a read that nothing explains, or a cycle of edges.
func earned(t *testing.T, h api.History, l int, a fast.Answer) {
	t.Helper()
	p := lookedAt(h, l)
	find := func(id int) api.Tx {
		return p.txs[slices.IndexFunc(p.txs, func(tx api.Tx) bool { return tx.ID == id })]
	}
	if a.Kind == fast.Read {
		if p.looked[a.Tx] != 1 || p.explained(find(a.Tx), a.Deed) {
			t.Fatalf("%+v at %d: %+v is explained", h, l, a)
		}
		return
	}
	for i, id := range a.Cycle {
		x, y := find(id), find(a.Cycle[(i+1)%len(a.Cycle)])
		if !p.holds(x, y, api.GReal) && !p.holds(x, y, api.GFrom) && !p.holds(x, y, api.GWrite) && !p.holds(x, y, api.GAnti) {
			t.Fatalf("%+v at %d: no edge leads from %d to %d", h, l, x.ID, y.ID)
		}
	}
}

// P15.9
func TestUnderThePremiseStill(t *testing.T) {
	some(3, 200, func(dice *testkit.Dice, h api.History) {
		for n, p := range cut.Prefixes(h) {
			if err := fast.Premise(p); err != nil {
				t.Fatalf("%+v: the prefix of %d events: %v", h, n, err)
			}
		}
		if err := fast.Premise(cut.Only(h, func(id int) bool { return id%2 == 0 })); err != nil {
			t.Fatalf("%+v without some: %v", h, err)
		}
	})
}

// P15.5, P15.9
func TestVersionsOfMany(t *testing.T) {
	kinds := map[bool]int{}
	some(4, 1500, func(dice *testkit.Dice, h api.History) {
		l := 1 + dice.Roll(3)
		p := lookedAt(h, l)
		a, _ := fast.Judge(h, l)
		for obj, o := range h.Objects {
			values, all, err := fast.Versions(h, l, obj)
			want, wantAll := p.versions(obj, o.Init)
			if err != nil || all != wantAll || !slices.Equal(values, want) {
				t.Fatalf("%+v at %d: Versions of %d = %v, %v, %v, not %v, %v", h, l, obj, values, all, err, want, wantAll)
			}
			kinds[all]++
			if !all || a.Kind != fast.Yes {
				continue
			}
			s, _ := store.New(h.Objects)
			s, err = play.Order(s, p.txs, a.Steps, l == api.LFinal)
			state, _ := s.At(obj)
			if _, _, got, _ := state.Do(api.OpRead, 0, 0); err != nil || got != values[len(values)-1] {
				t.Fatalf("%+v at %d: behind %v the register %d has %d, %v, not the last of %v", h, l, a.Steps, obj, got, err, values)
			}
		}
	})
	if kinds[false] < 50 || kinds[true] < 50 {
		t.Error("too few of a kind", kinds)
	}
}

// versions is Versions, restated.
func (p *plain) versions(obj, init int) ([]int, bool) {
	values := []int{init}
	left := map[int]api.Tx{}
	for _, t := range p.txs {
		if _, ok := writes(t, obj); ok && p.taken[t.ID] == 1 {
			left[t.ID] = t
		}
	}
	for {
		var next []api.Tx
		for _, t := range left {
			if v, _ := version(t, obj); v == values[len(values)-1] {
				next = append(next, t)
			}
		}
		if len(next) != 1 {
			return values, len(next) == 0 && len(left) == 0
		}
		w, _ := writes(next[0], obj)
		values = append(values, w)
		delete(left, next[0].ID)
	}
}
