package suffix

import "strings"

// kind is what a rule says of its host, as its key tells it.
type kind byte

const (
	plainRule kind = '$'
	wildRule  kind = '*'
	exception kind = '!'
)

// ahead tells what stands ahead of the host in a line.
func (k kind) ahead() string {
	switch k {
	case wildRule:
		return "*."
	case exception:
		return "!"
	}
	return ""
}

func (k kind) isOne() bool {
	return k == plainRule || k == wildRule || k == exception
}

// splitRule parts a line into the kind of its rule and what must be its host.
func splitRule(line string) (kind, string) {
	for _, k := range [...]kind{wildRule, exception} {
		if text, found := strings.CutPrefix(line, k.ahead()); found {
			return k, text
		}
	}
	return plainRule, line
}

// section is the part of a list in which a rule stands, as its key tells it.
type section byte

const (
	sectionI  section = 'i'
	sectionP  section = 'p'
	noSection section = '-'
)

func (s section) isOne() bool {
	return s == sectionI || s == sectionP
}

// rule is a line that says something of hosts.
type rule struct {
	kind    kind
	host    string // in plain form
	labels  int    // of the host
	section section
}

// newRule makes a rule for what must be its host; false, if there is none.
func newRule(k kind, text string, in section) (rule, bool) {
	labels, err := readHost(text)
	// Of an exception one label less is public, and one at least must be.
	if err != OK || k == exception && len(labels) < 2 {
		return rule{}, false
	}
	return rule{kind: k, host: joined(labels, label.plainForm), labels: len(labels), section: in}, true
}

// ruleOfLine tells the rule that a line of a section is; false, if it is none.
func ruleOfLine(line string, in section) (rule, bool) {
	k, text := splitRule(line)
	return newRule(k, text, in)
}

// ruleOfKey tells the rule that has this key; false, if none has it.
func ruleOfKey(key string) (rule, bool) {
	end := len(key) - 2
	if end < 0 {
		return rule{}, false
	}
	k, in := kind(key[end]), section(key[end+1])
	if !k.isOne() || !in.isOne() {
		return rule{}, false
	}
	found, ok := newRule(k, host(key[:end]).turned(), in)
	// In a key hosts stand in plain form alone.
	return found, ok && found.key() == key
}

// isKnownAs tells whether two rules are taken for the same one, in whichever section they stand.
func (r rule) isKnownAs(other rule) bool {
	return r.kind == other.kind && r.host == other.host
}

func (r rule) key() string {
	return host(r.host).turned() + string([]byte{byte(r.kind), byte(r.section)})
}

func (r rule) line() string {
	return r.kind.ahead() + r.host
}

// fits tells whether a rule says something of a host in plain form.
func (r rule) fits(plain string) bool {
	return strings.HasSuffix(plain, "."+r.host) || plain == r.host && r.kind != wildRule
}

// public tells how many of the last labels of a host are public by this rule.
func (r rule) public() int {
	switch r.kind {
	case wildRule:
		return r.labels + 1
	case exception:
		return r.labels - 1
	}
	return r.labels
}

// prevails tells whether this rule prevails over another one, where both fit.
func (r rule) prevails(over rule) bool {
	if r.kind != over.kind && (r.kind == exception || over.kind == exception) {
		return r.kind == exception
	}
	if r.public() != over.public() {
		return r.public() > over.public()
	}
	return r.kind == plainRule
}

// suffixOf tells the public suffix of a host for which this rule prevails.
func (r rule) suffixOf(plain string) string {
	return host(plain).last(r.public())
}

// domainOf tells the domain of such a host.
func (r rule) domainOf(plain string) string {
	return host(plain).last(r.public() + 1)
}
