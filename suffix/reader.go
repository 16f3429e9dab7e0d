package suffix

import "strings"

// reader reads lists, up to the first line that is refused.
type reader struct {
	rules   ruleSet
	section section // of the rules that follow in the list
	read    int     // how many lines have been read
	err     Errno   // why the line behind these was refused
}

// add reads lists, each as if behind those that were read.
func (r *reader) add(lists ...string) {
	for _, text := range lists {
		r.section = sectionI
		list(text).lines(r.take)
		if r.err != OK {
			return
		}
	}
}

// take reads a line, and tells whether to go on.
func (r *reader) take(line string) bool {
	r.err = r.addLine(line)
	if r.err != OK {
		return false
	}
	r.read++
	return true
}

func (r *reader) addLine(line string) Errno {
	switch {
	case line == "" || strings.HasPrefix(line, "//"):
		return OK
	case line == beginI:
		r.section = sectionI
		return OK
	case line == beginP:
		r.section = sectionP
		return OK
	}
	found, ok := ruleOfLine(line, r.section)
	if !ok {
		return ErrList
	}
	return r.rules.add(found)
}
