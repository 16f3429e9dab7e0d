package suffix

import "strings"

// kind is what a rule says of its host, as its key tells it.
type kind byte

const (
	plainRule kind = '$'
	wildRule  kind = '*'
	exception kind = '!'
)

// ahead tells what stands ahead of the host in a line.
func (k kind) ahead() string {
	switch k {
	case wildRule:
		return "*."
	case exception:
		return "!"
	}
	return ""
}

// splitRule parts a line into the kind of its rule and what must be its host.
func splitRule(line string) (kind, string) {
	for _, k := range [...]kind{wildRule, exception} {
		if text, found := strings.CutPrefix(line, k.ahead()); found {
			return k, text
		}
	}
	return plainRule, line
}

// section is the part of a list in which a rule stands, as its key tells it.
type section byte

const (
	sectionI section = 'i'
	sectionP section = 'p'
)

// rule is a line that says something of hosts.
type rule struct {
	kind    kind
	host    string // in plain form
	section section
}

// readRule tells the rule that a line of a section is; false, if it is none.
func readRule(line string, in section) (rule, bool) {
	k, text := splitRule(line)
	labels, err := readHost(text)
	// Of an exception one label less is public, and one at least must be.
	if err != OK || k == exception && len(labels) < 2 {
		return rule{}, false
	}
	return rule{kind: k, host: joined(labels, label.plainForm), section: in}, true
}

// isKnownAs tells whether two rules are taken for the same one, in whichever section they stand.
func (r rule) isKnownAs(other rule) bool {
	return r.kind == other.kind && r.host == other.host
}

func (r rule) key() string {
	var out []byte
	for piece := range host(r.host).labels {
		if len(out) > 0 {
			out = append(out, '.')
		}
		out = append(out, piece...)
	}
	return string(append(out, byte(r.kind), byte(r.section)))
}
