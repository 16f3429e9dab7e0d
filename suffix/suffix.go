// Package suffix: which part of a host's name is anybody's: see DOC.md.
package suffix

// Errno is what a call answers: OK or the reason for a refusal.
type Errno int

const (
	OK        Errno = 0
	ErrLong   Errno = 1 // a text above its bound
	ErrHost   Errno = 2 // no host
	ErrList   Errno = 3 // no line of a list
	ErrTwice  Errno = 4 // a rule that there is already
	ErrMany   Errno = 5 // too many rules or origins
	ErrImage  Errno = 6 // no image
	ErrArg    Errno = 7 // no such scheme, port or origin
	ErrOpaque Errno = 8 // an origin without a host
	ErrDomain Errno = 9 // a domain that may not be set
)

// Plain tells the plain form of a host (P3).
func Plain(host string) (string, Errno) { return hostIn(host, label.plainForm) }

// Shown tells a host with its foreign letters (P3).
func Shown(host string) (string, Errno) { return hostIn(host, label.shownForm) }

// Compile makes the image of lists of rules (P4).
func Compile(lists ...string) (string, Errno, int) {
	if areLong(lists...) {
		return "", ErrLong, 0
	}
	var r reader
	r.add(lists...)
	if r.err != OK {
		return "", r.err, r.read
	}
	return r.rules.image(), OK, 0
}

// Rules tells the rules of an image (P5).
func Rules(image string) (string, Errno) {
	rules, err := readImage(image)
	if err != OK {
		return "", err
	}
	return rules.list(), OK
}

// Lookup tells a host's public suffix, its domain, and the section (P6).
func Lookup(image string, host string) (string, string, string, Errno) {
	rules, err := readImage(image)
	if err != OK {
		return "", "", "", err
	}
	plain, err := hostIn(host, label.plainForm)
	if err != OK {
		return "", "", "", err
	}
	by := rules.prevailing(plain)
	return by.suffixOf(plain), by.domainOf(plain), string(by.section), OK
}

// New makes a world without origins (P7).
func New(image string) (*World, Errno) {
	rules, err := readImage(image)
	if err != OK {
		return nil, err
	}
	return &World{rules: rules}, OK
}

// Tuple makes an origin of a scheme, a host and a port (P7).
func (w *World) Tuple(scheme string, host string, port int) (int, Errno) {
	if !isScheme(scheme) || !isPort(port) {
		return 0, ErrArg
	}
	plain, err := hostIn(host, label.plainForm)
	if err != OK {
		return 0, err
	}
	return w.add(origin{from: newTuple(scheme, plain, port)})
}

// Opaque makes an origin that is like no other (P7).
func (w *World) Opaque() (int, Errno) { return w.add(origin{}) }

// Domain sets an origin's domain (P8).
func (w *World) Domain(origin int, value string) Errno {
	if !w.has(origin) {
		return ErrArg
	}
	of := &w.origins[origin]
	if of.isOpaque() {
		return ErrOpaque
	}
	plain, err := hostIn(value, label.plainForm)
	if err != OK {
		return err
	}
	if !w.mayBeDomain(plain, of.from.host) {
		return ErrDomain
	}
	of.domain = plain
	return OK
}

// Site tells an origin's site (P9).
func (w *World) Site(origin int) (string, Errno) {
	if !w.has(origin) {
		return "", ErrArg
	}
	return w.site(origin), OK
}

// Same tells whether two origins are the same, the same by domain, and of one site (P9).
func (w *World) Same(a int, b int) (bool, bool, bool, Errno) {
	if !w.has(a) || !w.has(b) {
		return false, false, false, ErrArg
	}
	answers := w.relations(a, b)
	return answers[0], answers[1], answers[2], OK
}
