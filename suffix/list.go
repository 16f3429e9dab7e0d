package suffix

import "strings"

const maxList = 2000 // bytes of all lists together

// The lines with which sections begin.
const (
	beginI = "===i"
	beginP = "===p"
)

// areLong tells whether the lists have too many bytes together.
func areLong(lists ...string) bool {
	left := maxList
	for _, text := range lists {
		// Held against what is left, so that no sum can grow beyond an int.
		if len(text) > left {
			return true
		}
		left -= len(text)
	}
	return false
}

// list is a text whose lines may be rules.
type list string

// lines goes through the lines, from the first on.
func (l list) lines(yield func(string) bool) {
	rest := string(l)
	for rest != "" {
		line, behind, _ := strings.Cut(rest, "\n")
		if !yield(line) {
			return
		}
		rest = behind
	}
}

// listWriter writes a list.
type listWriter struct {
	text strings.Builder
}

func (w *listWriter) add(lines ...string) {
	for _, line := range lines {
		w.text.WriteString(line)
		w.text.WriteByte('\n')
	}
}
