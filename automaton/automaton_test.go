package automaton

import (
	"slices"
	"strconv"
	"strings"
	"testing"
)

// imageOf writes an image from words: a state a text, an edge a word of its byte and its state's number.
func imageOf(states ...string) string {
	var out strings.Builder
	out.WriteByte(byte(len(states) / 256))
	out.WriteByte(byte(len(states) % 256))
	for _, state := range states {
		edges := strings.Fields(state)
		out.WriteByte(byte(len(edges)))
		for _, e := range edges {
			to, _ := strconv.Atoi(e[1:])
			out.WriteByte(e[0])
			out.WriteByte(byte(to / 256))
			out.WriteByte(byte(to % 256))
		}
	}
	return out.String()
}

func expect(t *testing.T, want string, keys ...string) {
	t.Helper()
	if got := Image(keys...); got != want {
		t.Errorf("Image(%q) = %q, want %q", keys, got, want)
	}
}

func TestImages(t *testing.T) {
	expect(t, "\x00\x00")
	expect(t, "\x00\x06\x00\x01i\x00\x00\x01$\x00\x01\x01m\x00\x02\x01o\x00\x03\x01c\x00\x04", "com$i")
	expect(t, imageOf("", "i0", "$1", "m2", "o3", "c4"), "com$i")
	// Endings in common.
	expect(t, imageOf("", "i0", "$1", "a2 b2"), "a$i", "b$i")
	expect(t, imageOf("", "i0", "$1", "z2", "a3 b3"), "az$i", "bz$i")
	// Beginnings in common.
	expect(t, imageOf("", "i0", "!1 $1 *1", "a2"), "a$i", "a*i", "a!i")
	expect(t, imageOf("", "i0", "p0", "$1 *2", "a3"), "a$i", "a*p")
	expect(t, imageOf("", "i0", "$1", "b2", "c2", "a3 x4"), "ab$i", "xc$i")
	// Both.
	expect(t, imageOf("", "i0", "$1", "c2", "b3 d3", "a4"), "abc$i", "adc$i")
	expect(t, imageOf("", "i0", "$1", "y2 z2", "a3 b3"), "ay$i", "az$i", "by$i", "bz$i")
	// One key goes on where another ends.
	expect(t, imageOf("", "i0", "$1", "$1 b2", "a3"), "a$i", "ab$i")
	expect(t, imageOf("", "i0", "$1", "a2", "$1 .3", "a4"), "a$i", "a.a$i")
	// Sections: only the same endings are one.
	expect(t, imageOf("", "p0", "$1", "i0", "$3", "a2 b4"), "a$p", "b$i")
}

// TestOrderOfBytes: edges stand by their bytes, as numbers without a sign.
func TestOrderOfBytes(t *testing.T) {
	expect(t, imageOf("", "!0 $0 *0 -0 .0 00 90 a0 z0 \x800 \xff0"), "z", "a", "\xff", "\x80", "9", "0", ".", "-", "*", "$", "!")
}

func TestOrderOfKeys(t *testing.T) {
	keys := []string{"a$i", "ab$i", "b*p", "c.d!i"}
	want := Image(keys...)
	for range 24 {
		keys[0], keys[1], keys[2], keys[3] = keys[1], keys[2], keys[3], keys[0]
		expect(t, want, keys...)
		keys[0], keys[1] = keys[1], keys[0]
		expect(t, want, keys...)
	}
	expect(t, want, append(keys, keys...)...)
}

func TestKeysAreNotWrittenInto(t *testing.T) {
	keys := []string{"b$i", "a$i", "c$i", "0$i"}
	Image(keys[:3]...)
	if !slices.Equal(keys, []string{"b$i", "a$i", "c$i", "0$i"}) {
		t.Errorf("the keys are %q now", keys)
	}
}

// byDefinition makes an image otherwise: a state is all that may follow it, and is found by that.
type byDefinition struct {
	numbers map[string]int
	told    []string
}

func (d *byDefinition) visit(rests []string) int {
	slices.Sort(rests)
	name := strings.Join(rests, "\n")
	if number, there := d.numbers[name]; there {
		return number
	}
	var edges []string
	for sign := range 256 {
		var behind []string
		for _, rest := range rests {
			if rest != "" && rest[0] == byte(sign) {
				behind = append(behind, rest[1:])
			}
		}
		if len(behind) > 0 {
			edges = append(edges, string([]byte{byte(sign)})+strconv.Itoa(d.visit(behind)))
		}
	}
	d.numbers[name] = len(d.told)
	d.told = append(d.told, strings.Join(edges, " "))
	return d.numbers[name]
}

func expectByDefinition(t *testing.T, keys []string) {
	t.Helper()
	d := byDefinition{numbers: map[string]int{}}
	if len(keys) > 0 {
		d.visit(slices.Clone(keys))
	}
	expect(t, imageOf(d.told...), keys...)
}

func TestAllChoicesOfKeys(t *testing.T) {
	pool := []string{"a$i", "b$i", "a*p", "ab$i", "bb$i", "a.a$i", "a.ab!i", "ab.a$p", "b.a$p", "b.ab*i", "b.a.a$i"}
	for choice := range 1 << len(pool) {
		var keys []string
		for i, key := range pool {
			if choice>>i&1 == 1 {
				keys = append(keys, key)
			}
		}
		expectByDefinition(t, keys)
	}
}

// TestManyStates: numbers that need both bytes.
func TestManyStates(t *testing.T) {
	for _, length := range []int{252, 253, 254, 300, 1000} {
		expectByDefinition(t, []string{strings.Repeat("a", length) + "$i"})
		expectByDefinition(t, []string{strings.Repeat("a", length) + "$i", strings.Repeat("b", length) + "a*p", "zaaa*p"})
	}
	if got := Image(strings.Repeat("a", 253) + "$i"); got[:2] != "\x01\x00" {
		t.Errorf("256 states are told as %q", got[:2])
	}
}
