package event

// The tables of words.
const (
	Objects = 1
	Events  = 2
	Ops     = 3
	Answers = 4
	States  = 5
	Levels  = 6
)

// words has a row for each table, in it the words by rising codes; neither has one at 0.
var words = [...][10]string{
	Objects: {1: "register", 2: "counter", 3: "queue", 4: "map"},
	Events:  {1: "begin", 2: "call", 3: "return", 4: "try", 5: "commit", 6: "abort", 7: "cancel"},
	Ops:     {1: "read", 2: "write", 3: "add", 4: "get", 5: "enq", 6: "deq", 7: "put", 8: "look", 9: "del"},
	Answers: {1: "ok", 2: "none", 3: "val"},
	States:  {1: "live", 2: "pending", 3: "committed", 4: "aborted"},
	Levels:  {1: "serial", 2: "strict", 3: "final", 4: "opaque"},
}

// Word is a code's word; empty, if there is none.
func Word(table, code int) string {
	if table < 0 || table >= len(words) || code < 0 || code >= len(words[table]) {
		return ""
	}
	return words[table][code]
}

// Code is a word's code.
func Code(table int, word string) (int, bool) {
	if word == "" || table < 0 || table >= len(words) {
		return 0, false
	}
	for code, w := range words[table] {
		if w == word {
			return code, true
		}
	}
	return 0, false
}
