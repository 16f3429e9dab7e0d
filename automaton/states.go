package automaton

// edge goes to a state, by its number, and bears a byte.
type edge struct {
	sign byte
	to   int
}

// states are those of an image that have a number already.
type states struct {
	numbers map[string]int // by what the image tells of a state
	told    []byte         // what the image tells of all of them, in their order
}

func newStates() *states {
	return &states{numbers: map[string]int{}}
}

// add tells the number of the state with these edges, which is a new one, if there is none yet.
func (s *states) add(edges ...edge) int {
	// The same edges lead to the same keys: to keep such states as one is what makes them as few as there can be.
	told := tell(edges...)
	number, there := s.numbers[told]
	if !there {
		number = len(s.numbers)
		s.numbers[told] = number
		s.told = append(s.told, told...)
	}
	return number
}

// addKeys tells the number of the state to which the keys come with their first depth bytes. The keys are sorted, and have these bytes in common.
func (s *states) addKeys(depth int, keys ...string) int {
	if len(keys[0]) == depth {
		return s.add()
	}
	var edges []edge
	for len(keys) > 0 {
		sign := keys[0][depth]
		end := countWith(sign, depth, keys...)
		// What is behind an edge has its numbers ahead of the next one, and of this state.
		edges = append(edges, edge{sign: sign, to: s.addKeys(depth+1, keys[:end]...)})
		keys = keys[end:]
	}
	return s.add(edges...)
}

// countWith counts the keys at the beginning that have this byte at this depth.
func countWith(sign byte, depth int, keys ...string) int {
	count := 0
	for count < len(keys) && keys[count][depth] == sign {
		count++
	}
	return count
}

func (s *states) image() string {
	return string(append(twoBytes(len(s.numbers)), s.told...))
}

// tell tells a state as the image does.
func tell(edges ...edge) string {
	told := []byte{byte(len(edges))}
	for _, e := range edges {
		told = append(told, e.sign)
		told = append(told, twoBytes(e.to)...)
	}
	return string(told)
}

// twoBytes tells a number, the higher byte first.
func twoBytes(number int) []byte {
	return []byte{byte(number >> 8), byte(number)}
}
