package suffix

import (
	"slices"

	"suffix/automaton"
)

const maxRules = 30

// ruleSet holds rules, none of them twice.
type ruleSet []rule

// add adds a rule, unless there is a reason not to.
func (s *ruleSet) add(found rule) Errno {
	if slices.ContainsFunc(*s, found.isKnownAs) {
		return ErrTwice
	}
	if len(*s) == maxRules {
		return ErrMany
	}
	*s = append(*s, found)
	return OK
}

// takeKey adds the rule that has a key, and tells whether to go on.
func (s *ruleSet) takeKey(key string) bool {
	found, ok := ruleOfKey(key)
	return ok && s.add(found) == OK
}

func (s ruleSet) image() string {
	var keys []string
	for _, each := range s {
		keys = append(keys, each.key())
	}
	return automaton.Image(keys...)
}

// list tells the rules as a list, section by section, in the order in which they stand here.
func (s ruleSet) list() string {
	var out listWriter
	out.add(s.linesOf(sectionI)...)
	if lines := s.linesOf(sectionP); len(lines) > 0 {
		out.add(beginP)
		out.add(lines...)
	}
	return out.text.String()
}

func (s ruleSet) linesOf(in section) []string {
	var lines []string
	for _, each := range s {
		if each.section == in {
			lines = append(lines, each.line())
		}
	}
	return lines
}

// prevailing tells the rule that prevails over all others that fit a host in plain form.
func (s ruleSet) prevailing(plain string) rule {
	// That every last label is public is a wild rule of no host at all: whatever else fits prevails over it.
	best := rule{kind: wildRule, section: noSection}
	for _, each := range s {
		if each.fits(plain) && each.prevails(best) {
			best = each
		}
	}
	return best
}
