package automaton

import (
	"slices"
	"strconv"
	"strings"
	"testing"
)

// expectKeys goes through the keys of an image, and leaves them behind each key once.
func expectKeys(t *testing.T, image string, want ...string) {
	t.Helper()
	a, ok := Read(image)
	if !ok {
		t.Errorf("Read(%q) refuses", image)
		return
	}
	if got := slices.Collect(a.Keys); !slices.Equal(got, want) {
		t.Errorf("the keys of %q are %q, want %q", image, got, want)
		return
	}
	for leave := range want {
		if got := firstKeys(a, leave+1); !slices.Equal(got, want[:leave+1]) {
			t.Errorf("the keys of %q, left early, are %q, want %q", image, got, want[:leave+1])
		}
	}
}

func firstKeys(a Automaton, count int) []string {
	var keys []string
	for key := range a.Keys {
		keys = append(keys, key)
		if len(keys) == count {
			break
		}
	}
	return keys
}

func TestKeysOfImages(t *testing.T) {
	for _, keys := range [][]string{
		{}, {"com$i"}, {"a"}, {"a$i", "b$i"}, {"a!i", "a$i", "a*i"}, {"a$i", "a*p"}, {"ab$i", "xc$i"},
		{"ay$i", "az$i", "by$i", "bz$i"}, {"a$i", "a.a$i"}, {"a$i", "ab$i"}, {"a$p", "b$i"},
		{"ck*i", "ck.www!i", "com$i", "com.blogspot$p", "uk$i", "uk.co$i"},
		{"!", "-", ".", "0", "a", "\x80", "\xff"}, {strings.Repeat("a", 1000) + "$i", strings.Repeat("b", 1000)},
	} {
		expectKeys(t, Image(keys...), keys...)
	}
}

// TestKeysOfOtherStates: what leads to the last state is a key, however many states there are.
func TestKeysOfOtherStates(t *testing.T) {
	expectKeys(t, imageOf(""), "")
	expectKeys(t, imageOf("", "i0", "i0", "a1 b2"), "ai", "bi")
	expectKeys(t, imageOf("", "i0", "p0"), "p")
	expectKeys(t, imageOf("", "b0 a0 a0"), "b", "a", "a")
	expectKeys(t, imageOf("", "a0", "b0 c1"), "b", "ca")
}

// TestManyWays: there are more ways than could ever be gone through.
func TestManyWays(t *testing.T) {
	states := []string{""}
	for behind := range 63 {
		number := strconv.Itoa(behind)
		states = append(states, "a"+number+" b"+number)
	}
	a, ok := Read(imageOf(states...))
	if !ok {
		t.Fatal("Read refuses")
	}
	head := strings.Repeat("a", 61)
	if got := firstKeys(a, 3); !slices.Equal(got, []string{head + "aa", head + "ab", head + "ba"}) {
		t.Errorf("the first keys are %q", got)
	}
}

func TestWrongImages(t *testing.T) {
	com := Image("com$i")
	for end := range len(com) {
		expectNone(t, com[:end])
	}
	for _, image := range []string{
		com + "\x00", com + com, "\x00\x00\x00", "\x00\x01\x00\x00", // more than they say
		"\x00\x05" + com[2:], "\x00\x07" + com[2:], "\xff\xff" + com[2:], "\x00\x01", "\xff\xff",
		imageOf("a0"), imageOf("a1", "b0"), imageOf("a1", ""), // the last state has no edges
		imageOf("", "a1"), imageOf("", "a2", "b0"), imageOf("", "a0 b1"), imageOf("", "a2", "b1"), imageOf("", "a0", "b3"), imageOf("", "a0", "b65535"), // rings, and states that are not there
		imageOf("", ""), imageOf("", "a0", ""), imageOf("", "", "a0 b1"), // no other state is without edges
	} {
		expectNone(t, image)
	}
}

func expectNone(t *testing.T, image string) {
	t.Helper()
	if a, ok := Read(image); ok {
		t.Errorf("Read(%q) = %v", image, a)
	}
}
