package suffix

import (
	"strings"

	"suffix/code"
)

// mark stands ahead of a code, as the beginning of a label's plain form.
const mark = "xn--"

// label is what stands between two dots of a host.
type label struct {
	letters string // as they came, but for the great ones, which are small here
	plain   string // the plain form
}

func newLabel(text string) label {
	letters := withSmallLetters(text)
	if strings.ContainsFunc(letters, code.IsForeign) {
		return label{letters: letters, plain: mark + code.Of(letters)}
	}
	return label{letters: letters, plain: letters}
}

// withSmallLetters leaves foreign letters alone: there is no greater or smaller among them.
func withSmallLetters(text string) string {
	out := []byte(text)
	for i, c := range out {
		if 'A' <= c && c <= 'Z' {
			out[i] = c - 'A' + 'a'
		}
	}
	return string(out)
}

// isRight tells whether a label is all that it must be.
func (l label) isRight() bool {
	// The letters come first: what a code is told of must be letters.
	checks := [...]func(label) bool{
		label.hasLetters,
		label.hasLettersOnly,
		label.isShort,
		label.hasNoHyphenAtEnds,
		label.isCodeIfMarked,
	}
	for _, holds := range checks {
		if !holds(l) {
			return false
		}
	}
	return true
}

func (l label) hasLetters() bool {
	return l.letters != ""
}

func (l label) hasLettersOnly() bool {
	for _, letter := range l.letters {
		if !code.IsPlain(letter) && !code.IsForeign(letter) {
			return false
		}
	}
	return true
}

func (l label) isShort() bool {
	return len(l.plain) <= maxLabel
}

// hasNoHyphenAtEnds asks the plain form: ahead of or behind foreign letters a hyphen may stand.
func (l label) hasNoHyphenAtEnds() bool {
	return !strings.HasPrefix(l.plain, "-") && !strings.HasSuffix(l.plain, "-")
}

func (l label) isCodeIfMarked() bool {
	text, marked := strings.CutPrefix(l.plain, mark)
	if !marked {
		return true
	}
	_, found := code.Letters(text)
	return found
}

func (l label) isOfDigits() bool {
	return strings.Trim(l.plain, "0123456789") == ""
}

func (l label) plainForm() string {
	return l.plain
}

// shownForm reads the code again, since a label may have come as one.
func (l label) shownForm() string {
	text, marked := strings.CutPrefix(l.plain, mark)
	if !marked {
		return l.plain
	}
	letters, _ := code.Letters(text)
	return letters
}
