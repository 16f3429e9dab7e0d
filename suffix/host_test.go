package suffix

import (
	"iter"
	"slices"
	"testing"
)

// expectPieces goes through an iterator, and leaves it behind each piece once.
func expectPieces(t *testing.T, text string, pieces iter.Seq[string], want ...string) {
	t.Helper()
	if got := slices.Collect(pieces); !slices.Equal(got, want) {
		t.Errorf("the pieces of %q are %q, want %q", text, got, want)
		return
	}
	for leave := range want {
		var got []string
		for piece := range pieces {
			got = append(got, piece)
			if len(got) == leave+1 {
				break
			}
		}
		if !slices.Equal(got, want[:leave+1]) {
			t.Errorf("the pieces of %q, left early, are %q, want %q", text, got, want[:leave+1])
		}
	}
}

func expectLabels(t *testing.T, text string, want ...string) {
	t.Helper()
	expectPieces(t, text, host(text).labels, want...)
}

func TestLabelsFromTheRight(t *testing.T) {
	expectLabels(t, "a.b.c", "c", "b", "a")
	expectLabels(t, "a", "a")
	expectLabels(t, "", "")
	expectLabels(t, ".", "", "")
	expectLabels(t, "a..b.", "", "b", "", "a")
}

// TestChecks: for each check there is a label that breaks it.
func TestChecks(t *testing.T) {
	for _, c := range []struct {
		text   string
		broken func(label) bool
	}{
		{"", label.hasLetters},
		{"a_b", label.hasLettersOnly},
		{"ü ", label.hasLettersOnly},
		{"aaaaaaaaaaaaaaaaaaaaa", label.isShort},
		{"aaaaaaaaaaaaaü", label.isShort},
		{"-a", label.hasNoHyphenAtEnds},
		{"a-", label.hasNoHyphenAtEnds},
		{"xn--b", label.isCodeIfMarked},
	} {
		l := newLabel(c.text)
		if c.broken(l) || l.isRight() {
			t.Errorf("the check for %q holds, or the label is right", c.text)
		}
	}
	for _, text := range []string{"a", "A-Z", "0", "ü", "-ü-", "xn--tda", "xn-a", "xna"} {
		if !newLabel(text).isRight() {
			t.Errorf("the label %q is not right", text)
		}
	}
}
