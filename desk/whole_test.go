package desk_test

import (
	"bytes"
	"slices"
	"testing"

	"umpire/api"
	"umpire/cert"
	"umpire/cut"
	"umpire/fast"
	"umpire/hist"
	"umpire/late"
	"umpire/level"
	"umpire/sample"
	"umpire/shape"
	"umpire/shrink"
	"umpire/testkit"
)

// P0.8: whatever bytes a history is, the judge answers.
func TestAnyHistory(t *testing.T) {
	dice := testkit.NewDice(11)
	read := 0
	for range 4000 {
		h := testkit.History(dice, testkit.Wish{Txs: 4, Events: 15, Threads: 3})
		text, _ := hist.Text(h)
		b, _ := hist.Binary(h)
		for range dice.Roll(3) {
			text[dice.Roll(len(text))] = byte(dice.Roll(256))
			b[dice.Roll(len(b))] = byte(dice.Roll(256))
		}
		one, err := hist.Parse(text)
		two, err2 := hist.Decode(b)
		for l := api.LSerial; l <= api.LOpaque; l++ {
			v, err3 := level.Judge(one, l, 100)
			w, err4 := level.Judge(two, l, 100)
			if err3 != nil && v.Yes || err4 != nil && w.Yes {
				t.Fatalf("%q or %v: a yes beside an error", text, b)
			}
			if err == nil && err2 == nil && err3 == nil && err4 == nil {
				read++
			}
		}
	}
	if read < 1000 {
		t.Errorf("just %d were read and judged", read)
	}
}

// P0.9, P0.10, P0.11, P0.12, P0.13: what is judged of one history hangs together.
func TestOneHistory(t *testing.T) {
	dice := testkit.NewDice(12)
	for i := range 400 {
		h := testkit.History(dice, testkit.Wish{Txs: 2 + i%4, Events: 15 + i%25, Threads: 3, Noise: 8, Apart: i%3 == 0})
		opaque, at := testkit.Opaque(h)
		said := []bool{}
		for l := api.LSerial; l <= api.LOpaque; l++ {
			v, err := level.Judge(h, l, api.MaxMemo)
			want := opaque
			if l < api.LOpaque {
				want = testkit.Judge(h, l).Yes
			}
			if err != nil || v.Yes != want || l == api.LOpaque && v.Prefix != at {
				t.Fatalf("%+v at %d: %+v, %v, not %v at %d", h, l, v, err, want, at)
			}
			said = append(said, v.Yes)
			if v.Yes {
				if err := level.Proves(h, l, v); err != nil {
					t.Fatalf("%+v at %d: Proves = %v", h, l, err)
				}
				continue
			}
			small, err := shrink.Run(h, l, api.MaxMemo)
			if err != nil || !cut.Sub(small, h) {
				t.Fatalf("%+v at %d: shrunk %+v, %v", h, l, small, err)
			}
			txs, _ := shape.Table(small)
			for _, tx := range txs {
				if v, err := level.Judge(cut.Without(small, tx.ID), l, api.MaxMemo); err != nil || !v.Yes {
					t.Fatalf("%+v at %d: %d is to spare", small, l, tx.ID)
				}
			}
		}
		// From the weakest level on a no is never followed by a yes.
		if first := slices.Index(said, false); first >= 0 && slices.Contains(said[first:], true) {
			t.Fatalf("%+v: %v", h, said)
		}
		for l := api.LSerial; l <= api.LOpaque; l++ {
			a, err := fast.Judge(h, l)
			if err == nil && (a.Kind == fast.Yes) != said[l-1] || err != nil && err != api.ErrPremise {
				t.Fatalf("%+v at %d: fast %+v, %v", h, l, a, err)
			}
			if err == nil && a.Kind == fast.Yes && l < api.LOpaque && cert.Check(h, l, a.Steps) != nil {
				t.Fatalf("%+v at %d: fast %+v is not taken", h, l, a)
			}
		}
	}
}

// P0.14: one history of the third engine, by name, is not opaque.
func TestTheThirdEngine(t *testing.T) {
	p, schedule := sample.Caught()
	h, err := late.Run(p, schedule)
	if got, err2 := level.Levels(h, 100); err != nil || err2 != nil || !slices.Equal(got, []int{1, 1, 2, 2}) {
		t.Errorf("Levels = %v, %v, %v", got, err, err2)
	}
}

// P0.15: both texts of what the engines and the samples are.
func TestBothTexts(t *testing.T) {
	for name, h := range sample.Each() {
		text, _ := hist.Text(h)
		one, err := hist.Parse(text)
		b, _ := hist.Binary(one)
		two, err2 := hist.Decode(b)
		again, _ := hist.Text(two)
		if err != nil || err2 != nil || !hist.Same(two, h) || !bytes.Equal(again, text) {
			t.Errorf("%s: %q is %q behind both", name, text, again)
		}
	}
}
