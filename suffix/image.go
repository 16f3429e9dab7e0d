package suffix

import "suffix/automaton"

const maxImage = 8000 // bytes

// readImage tells the rules of an image, in the order of their keys.
func readImage(image string) (ruleSet, Errno) {
	if len(image) > maxImage {
		return nil, ErrLong
	}
	states, ok := automaton.Read(image)
	if !ok {
		return nil, ErrImage
	}
	var rules ruleSet
	states.Keys(rules.takeKey)
	// Behind a key that is refused no more are taken, and other states may hold the same keys; but the rules that were taken have only one image.
	if rules.image() != image {
		return nil, ErrImage
	}
	return rules, OK
}
