// Package automaton writes keys as the image of an automaton of as few states as there can be, and reads them again: see 'Rules' in DOC.md.
package automaton

import "slices"

// Image tells the image of keys, of which none is the beginning of another.
func Image(keys ...string) string {
	sorted := slices.Clone(keys)
	slices.Sort(sorted)
	s := newStates()
	if len(sorted) > 0 {
		s.addKeys(0, sorted...)
	}
	return s.image()
}
