package cert

import (
	"umpire/api"
	"umpire/word"
)

// aborted stands ahead of the number of a step that is not Commit.
const aborted = "-"

// Line is the steps as words.
func Line(steps []api.Step) string {
	words := make([]string, 0, len(steps))
	for _, s := range steps {
		w := word.Print(s.Tx)
		if !s.Commit {
			w = aborted + w
		}
		words = append(words, w)
	}
	return word.Join(words...)
}

// Read is the steps that the words of a line say.
func Read(line string) ([]api.Step, error) {
	var steps []api.Step
	for _, w := range word.Words(line) {
		n, err := word.Number(w)
		if err != nil {
			return nil, err
		}
		if n == 0 {
			return nil, api.ErrNumber
		}
		steps = append(steps, api.Step{Tx: max(n, -n), Commit: n > 0})
	}
	return steps, nil
}
