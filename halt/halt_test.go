package halt_test

import (
	"testing"

	"umpire/halt"
)

func TestClosed(t *testing.T) {
	sent := make(chan struct{}, 2)
	sent <- struct{}{}
	behind := make(chan struct{}, 2)
	behind <- struct{}{}
	close(behind)
	for name, c := range map[string]struct {
		done <-chan struct{}
		want bool
	}{"nil": {nil, false}, "Never": {halt.Never(), false}, "Shut": {halt.Shut(), true}, "sent": {sent, false}, "closed behind what was sent": {behind, true}} {
		if got := halt.Closed(c.done); got != c.want {
			t.Errorf("%s: Closed = %v", name, got)
		}
	}
}
