// Package code writes letters as their code, in plain letters alone, and reads them from it: see 'Hosts' in DOC.md.
package code

import (
	"slices"
	"strings"
	"unicode/utf8"
)

const (
	firstForeign = 128
	divider      = '-' // between the plain letters and the numbers
)

// IsPlain tells whether a letter stands in a code as it is.
func IsPlain(letter rune) bool {
	return 'a' <= letter && letter <= 'z' || '0' <= letter && letter <= '9' || letter == '-'
}

// IsForeign tells whether a letter stands in a code as a number.
func IsForeign(letter rune) bool {
	return letter >= firstForeign
}

// Of tells the code of letters, each of them plain or foreign.
func Of(letters string) string {
	var out []byte
	for _, letter := range letters {
		if !IsForeign(letter) {
			out = append(out, byte(letter))
		}
	}
	r := newRow(len(out))
	if len(out) > 0 {
		out = append(out, divider)
	}
	for _, w := range waysOf([]rune(letters)) {
		out = appendNumber(out, r.passed(w), r.bias)
		r.take(w)
	}
	return string(out)
}

// waysOf tells the ways in which the foreign letters are put in, in their order.
func waysOf(letters []rune) []way {
	var ways []way
	for i, letter := range letters {
		if IsForeign(letter) {
			ways = append(ways, way{point: int(letter), place: standingAhead(letters[:i], letter)})
		}
	}
	slices.SortStableFunc(ways, way.comparePoints)
	return ways
}

// standingAhead counts those of the letters to the left that stand when this one is put in: a higher one to the left comes later.
func standingAhead(left []rune, letter rune) int {
	count := 0
	for _, other := range left {
		if other <= letter {
			count++
		}
	}
	return count
}

// Letters tells the letters whose code the text is; false, if there are none, or none of them is foreign.
func Letters(text string) (string, bool) {
	plain, numbers := split(text)
	letters := []rune(plain)
	r := newRow(len(letters))
	for numbers != "" {
		number, size := readNumber(numbers, r.bias, r.most())
		if size == 0 {
			return "", false
		}
		w := r.behind(number)
		if !utf8.ValidRune(rune(w.point)) {
			return "", false
		}
		letters = slices.Insert(letters, w.place, rune(w.point))
		r.take(w)
		numbers = numbers[size:]
	}
	told := string(letters)
	// A divider with nothing ahead of it is read above, but never written.
	if !strings.ContainsFunc(told, IsForeign) || Of(told) != text {
		return "", false
	}
	return told, true
}

// split parts a code at its last divider: no number has one, but the plain letters may.
func split(text string) (plain, numbers string) {
	at := strings.LastIndexByte(text, divider)
	if at < 0 {
		return "", text
	}
	return text[:at], text[at+1:]
}
