package suffix

import "strings"

const maxOrigins = 20

// World keeps origins.
type World struct {
	rules   ruleSet
	origins []origin // an origin's number is its place here
}

// add adds an origin and tells its number.
func (w *World) add(made origin) (int, Errno) {
	if len(w.origins) == maxOrigins {
		return 0, ErrMany
	}
	w.origins = append(w.origins, made)
	return len(w.origins) - 1, OK
}

func (w *World) has(number int) bool {
	return 0 <= number && number < len(w.origins)
}

// mayBeDomain tells whether a value in plain form may be set as the domain of a host.
func (w *World) mayBeDomain(value, of string) bool {
	if value == of {
		return true
	}
	return strings.HasSuffix(of, "."+value) && value != w.rules.prevailing(value).suffixOf(value)
}

// site tells the site of an origin, which no domain that was set changes.
func (w *World) site(number int) string {
	of := w.origins[number]
	if of.isOpaque() {
		return "opaque"
	}
	from := of.from
	owner := w.rules.prevailing(from.host).domainOf(from.host)
	if owner == "" {
		owner = from.host
	}
	return from.scheme + "://" + owner
}

// relations tells which relations hold between two origins, in the order in which Same answers.
func (w *World) relations(a, b int) [3]bool {
	var answers [3]bool
	for i, holds := range [...]func(int, int) bool{w.areSame, w.areSameByDomain, w.areOfOneSite} {
		answers[i] = holds(a, b)
	}
	return answers
}

// areSame asks for the numbers too: an opaque origin is like itself alone.
func (w *World) areSame(a, b int) bool {
	first, second := w.origins[a], w.origins[b]
	return a == b || !first.isOpaque() && first.from == second.from
}

func (w *World) areSameByDomain(a, b int) bool {
	first, second := w.origins[a], w.origins[b]
	if first.domain == "" && second.domain == "" {
		return w.areSame(a, b)
	}
	return first.from.scheme == second.from.scheme && first.domain == second.domain
}

func (w *World) areOfOneSite(a, b int) bool {
	return a == b || !w.origins[a].isOpaque() && w.site(a) == w.site(b)
}
