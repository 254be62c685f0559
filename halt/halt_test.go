package halt_test

import (
	"sync"
	"testing"
	"time"

	"umpire/halt"
)

func TestClosed(t *testing.T) {
	sent := make(chan struct{}, 2)
	sent <- struct{}{}
	behind := make(chan struct{}, 2)
	behind <- struct{}{}
	close(behind)
	for name, c := range map[string]struct {
		done <-chan struct{}
		want bool
	}{"nil": {nil, false}, "Never": {halt.Never(), false}, "Shut": {halt.Shut(), true}, "sent": {sent, false}, "closed behind what was sent": {behind, true}} {
		if got := halt.Closed(c.done); got != c.want {
			t.Errorf("%s: Closed = %v", name, got)
		}
	}
}

// Somebody who sends has not closed.
func TestClosedWhileOneSends(t *testing.T) {
	done, quit := make(chan struct{}), make(chan struct{})
	var group sync.WaitGroup
	group.Go(func() {
		for {
			select {
			case done <- struct{}{}:
			case <-quit:
				return
			}
		}
	})
	for range 200 {
		<-done
		time.Sleep(10 * time.Microsecond) // so that the sender waits again
		if halt.Closed(done) {
			t.Error("it is open, and Closed")
		}
	}
	close(quit)
	group.Wait()
}
