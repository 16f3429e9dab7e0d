package suffix

import (
	"slices"
	"strings"

	"suffix/automaton"
)

const maxRules = 30

// reader reads lists, up to the first line that is refused.
type reader struct {
	rules   []rule
	section section // of the rules that follow in the list
	read    int     // how many lines have been read
	err     Errno   // why the line behind these was refused
}

// add reads lists, each as if behind those that were read.
func (r *reader) add(lists ...string) {
	for _, text := range lists {
		r.section = sectionI
		list(text).lines(r.take)
		if r.err != OK {
			return
		}
	}
}

// take reads a line, and tells whether to go on.
func (r *reader) take(line string) bool {
	r.err = r.addLine(line)
	if r.err != OK {
		return false
	}
	r.read++
	return true
}

func (r *reader) addLine(line string) Errno {
	switch {
	case line == "" || strings.HasPrefix(line, "//"):
		return OK
	case line == "===i":
		r.section = sectionI
		return OK
	case line == "===p":
		r.section = sectionP
		return OK
	}
	found, ok := readRule(line, r.section)
	if !ok {
		return ErrList
	}
	return r.addRule(found)
}

func (r *reader) addRule(found rule) Errno {
	if slices.ContainsFunc(r.rules, found.isKnownAs) {
		return ErrTwice
	}
	if len(r.rules) == maxRules {
		return ErrMany
	}
	r.rules = append(r.rules, found)
	return OK
}

// image tells the image of the rules that were read.
func (r *reader) image() string {
	var keys []string
	for _, each := range r.rules {
		keys = append(keys, each.key())
	}
	return automaton.Image(keys...)
}
