package suffix

import "strings"

const maxPort = 65535

func isScheme(text string) bool {
	return text == "http" || text == "https"
}

func isPort(number int) bool {
	return 0 <= number && number <= maxPort
}

// tuple is what an origin is made of.
type tuple struct {
	scheme string
	host   string // in plain form
	port   int
}

// newTuple keeps a copy of the scheme: what is handed in is not kept.
func newTuple(scheme, plain string, port int) tuple {
	return tuple{scheme: strings.Clone(scheme), host: plain, port: port}
}

// origin is where a page comes from.
type origin struct {
	from   tuple  // nothing, if it is opaque
	domain string // the one that was set, in plain form; empty, if none was
}

func (o origin) isOpaque() bool {
	return o.from == tuple{}
}
