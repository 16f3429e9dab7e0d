package suffix

import "testing"

func TestRuleOfKey(t *testing.T) {
	for key, line := range map[string]string{
		"a$i": "a", "a*p": "*.a", "b.a!i": "!a.b", "c.b.a$p": "a.b.c", "xn--tda.1*i": "*.1.xn--tda",
	} {
		found, ok := ruleOfKey(key)
		if !ok || found.key() != key || found.line() != line || string(found.section) != key[len(key)-1:] {
			t.Errorf("the rule of %q is %+v, %t", key, found, ok)
		}
	}
	for _, key := range []string{"", "i", "$i", "a", "a$", "a%i", "a$x", "a!i", "A$i", "\u00fc$i", "a.$i", ".a$i", "1$i"} {
		if found, ok := ruleOfKey(key); ok {
			t.Errorf("the rule of %q is %+v", key, found)
		}
	}
}

// TestLastLabels: the labels are left where there are enough.
func TestLastLabels(t *testing.T) {
	for count, want := range []string{1: "ccc", 2: "bb.ccc", 3: "a.bb.ccc", 4: "", 5: ""} {
		if got := host("a.bb.ccc").last(count); count > 0 && got != want {
			t.Errorf("the last %d labels are %q, want %q", count, got, want)
		}
	}
}

func TestTurned(t *testing.T) {
	for text, want := range map[string]string{"": "", "a": "a", "a.bb.ccc": "ccc.bb.a", "a.": ".a", ".a": "a.", "..a": "a.."} {
		if got := host(text).turned(); got != want {
			t.Errorf("%q turned is %q, want %q", text, got, want)
		}
	}
}
