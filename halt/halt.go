// Package halt has channels that say by their closing that something is to stop.
package halt

// Shut is a channel that is closed.
func Shut() <-chan struct{} {
	c := make(chan struct{})
	close(c)
	return c
}

// Never is a channel that nobody closes.
func Never() <-chan struct{} { return make(chan struct{}) }

// Closed tells, without waiting, whether a channel is closed; nil is not. What was sent ahead of
// the closing doesn't hide it.
func Closed(done <-chan struct{}) bool {
	for range len(done) + 1 {
		select {
		case _, open := <-done:
			if !open {
				return true
			}
		default:
			return false
		}
	}
	return false
}
