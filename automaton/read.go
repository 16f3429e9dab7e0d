package automaton

// Automaton is what an image tells.
type Automaton struct {
	states [][]edge // by their numbers
}

// Read reads an image. No more is asked of it than going through the keys needs; whether it is the very image of them, Image tells.
func Read(image string) (Automaton, bool) {
	from := source{rest: image}
	var a Automaton
	for range from.number() {
		if !a.add(from.edges()...) {
			return Automaton{}, false
		}
	}
	return a, !from.short && from.rest == ""
}

// add adds a state with these edges, and tells whether all ways from it come to the last state.
func (a *Automaton) add(edges ...edge) bool {
	number := len(a.states)
	for _, e := range edges {
		// Edges to lower numbers alone can't go round in a ring.
		if e.to >= number {
			return false
		}
	}
	a.states = append(a.states, edges)
	return number == 0 || len(edges) > 0
}

// Keys goes through the bytes along each way from the first state to the last, by the order of the edges. There may be more ways than can be counted: whoever doubts the image must leave early.
func (a Automaton) Keys(yield func(string) bool) {
	if len(a.states) > 0 {
		a.keysFrom(len(a.states)-1, nil, yield)
	}
}

// keysFrom goes through the keys that begin with these bytes, which lead to this state, and tells whether to go on.
func (a Automaton) keysFrom(state int, begun []byte, yield func(string) bool) bool {
	if state == 0 {
		return yield(string(begun))
	}
	for _, e := range a.states[state] {
		if !a.keysFrom(e.to, append(begun, e.sign), yield) {
			return false
		}
	}
	return true
}

// source is what has not been read of an image.
type source struct {
	rest  string
	short bool // whether more was asked for than there was
}

// next reads a byte, which is 0 where there is none.
func (s *source) next() byte {
	if s.rest == "" {
		s.short = true
		return 0
	}
	first := s.rest[0]
	s.rest = s.rest[1:]
	return first
}

// number reads two bytes, the higher one first.
func (s *source) number() int {
	high := int(s.next())
	return high<<8 | int(s.next())
}

// edges reads what an image tells of a state.
func (s *source) edges() []edge {
	var edges []edge
	for range s.next() {
		sign := s.next()
		edges = append(edges, edge{sign: sign, to: s.number()})
	}
	return edges
}
