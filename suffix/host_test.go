package suffix

import (
	"slices"
	"testing"
)

func TestLabelsFromTheRight(t *testing.T) {
	for _, c := range []struct {
		text string
		want []string
	}{
		{"a.b.c", []string{"c", "b", "a"}},
		{"a", []string{"a"}},
		{"", []string{""}},
		{".", []string{"", ""}},
		{"a..b.", []string{"", "b", "", "a"}},
	} {
		if got := slices.Collect(host(c.text).labels); !slices.Equal(got, c.want) {
			t.Errorf("labels of %q: %q, want %q", c.text, got, c.want)
		}
	}
}

func TestLabelsLeftEarly(t *testing.T) {
	for leave := 1; leave <= 3; leave++ {
		var got []string
		for l := range host("a.b.c").labels {
			got = append(got, l)
			if len(got) == leave {
				break
			}
		}
		if want := []string{"c", "b", "a"}[:leave]; !slices.Equal(got, want) {
			t.Errorf("left at %d: %q, want %q", leave, got, want)
		}
	}
}

// TestChecks: for each check there is a label that breaks it.
func TestChecks(t *testing.T) {
	for _, c := range []struct {
		text   string
		broken func(label) bool
	}{
		{"", label.hasLetters},
		{"a_b", label.hasLettersOnly},
		{"ü ", label.hasLettersOnly},
		{"aaaaaaaaaaaaaaaaaaaaa", label.isShort},
		{"aaaaaaaaaaaaaü", label.isShort},
		{"-a", label.hasNoHyphenAtEnds},
		{"a-", label.hasNoHyphenAtEnds},
		{"xn--b", label.isCodeIfMarked},
	} {
		l := newLabel(c.text)
		if c.broken(l) || l.isRight() {
			t.Errorf("the check for %q holds, or the label is right", c.text)
		}
	}
	for _, text := range []string{"a", "A-Z", "0", "ü", "-ü-", "xn--tda", "xn-a", "xna"} {
		if !newLabel(text).isRight() {
			t.Errorf("the label %q is not right", text)
		}
	}
}
