package suffix_test

import (
	"strings"
	"testing"
	"unsafe"

	"suffix/suffix"
)

func expect(t *testing.T, host, plain, shown string, err suffix.Errno) {
	t.Helper()
	if got, e := suffix.Plain(host); got != plain || e != err {
		t.Errorf("P3: Plain(%.70q) = %q, %d, want %q, %d", host, got, e, plain, err)
	}
	if got, e := suffix.Shown(host); got != shown || e != err {
		t.Errorf("P3: Shown(%.70q) = %q, %d, want %q, %d", host, got, e, shown, err)
	}
}

func expectSame(t *testing.T, hosts ...string) {
	t.Helper()
	for _, host := range hosts {
		expect(t, host, host, host, suffix.OK)
	}
}

func expectForeign(t *testing.T, shown, plain string) {
	t.Helper()
	expect(t, shown, plain, shown, suffix.OK)
	expect(t, plain, plain, shown, suffix.OK)
	expect(t, strings.ToUpper(plain), plain, shown, suffix.OK)
}

func expectNoHost(t *testing.T, hosts ...string) {
	t.Helper()
	for _, host := range hosts {
		expect(t, host, "", "", suffix.ErrHost)
	}
}

func TestExamples(t *testing.T) {
	expect(t, "Example.COM", "example.com", "example.com", suffix.OK)
	expectForeign(t, "b\u00fccher.de", "xn--bcher-kva.de")
	expectForeign(t, "\u00fc", "xn--tda")
	expectForeign(t, "\u00fc\u00fc", "xn--tdaa")
	expectNoHost(t, "a..b", "-a", "a-", "a_b", "1.2.3.4", "xn--b", "")
}

func TestPlainHosts(t *testing.T) {
	expectSame(t, "a", "z", "example.com", "a-b.c--d", "0.9.a", "a1", "1a", "a.b-9", "xn.xn-a.xna", "ab--c")
}

func TestForeignHosts(t *testing.T) {
	expectForeign(t, "fa\u00df.example", "xn--fa-hia.example")
	expectForeign(t, "\u65e5\u672c.\u043f\u0440\u0438\u043c\u0435\u0440.a", "xn--wgv71a.xn--e1afmkfd.a")
	expectForeign(t, "a\u00e4b\u00f6c\u00fcd", "xn--abcd-loa3ivb")
	expectForeign(t, "\u00e4\u00fc.\u00fc\u00e4", "xn--4ca2c.xn--4ca1c")
	expectForeign(t, "\u4e2d\u00fc\U0001f600", "xn--tda5360b7y5s")
	expectForeign(t, "1\u00fc", "xn--1-eha")
}

func TestForeignLettersAtTheEdges(t *testing.T) {
	expectForeign(t, "\u0080", "xn--a")
	expectForeign(t, "\ud7ff.\ue000", "xn--hb9b.xn--0y0c")
	expectForeign(t, "\U00010000.\U0010ffff", "xn--2n7c.xn--dn32g")
	// The sign that stands for broken UTF-8 is a letter where it is written itself.
	expectForeign(t, "\ufffd", "xn--zn7c")
	// A foreign dot and foreign digits are neither dots nor digits.
	expectForeign(t, "\u3002", "xn--r6j")
	expectForeign(t, "a.\u0660", "a.xn--8hb")
}

func TestGreatLetters(t *testing.T) {
	expect(t, "ABCDEFGHIJKLM.NOPQRSTUVWXYZ", "abcdefghijklm.nopqrstuvwxyz", "abcdefghijklm.nopqrstuvwxyz", suffix.OK)
	expect(t, "B\u00fcCHER", "xn--bcher-kva", "b\u00fccher", suffix.OK)
	expect(t, "xN--BcHER-kVA", "xn--bcher-kva", "b\u00fccher", suffix.OK)
	// There is no greater or smaller among foreign letters, not even one that looks like K.
	expectForeign(t, "\u00dc", "xn--wca")
	expect(t, "K\u212a", "xn--k-4wn", "k\u212a", suffix.OK)
}

func TestLengthOfHost(t *testing.T) {
	full := strings.Repeat("a", 20)
	expectSame(t, full+"."+full+"."+strings.Repeat("a", 18))
	for _, host := range []string{
		full + "." + full + "." + strings.Repeat("a", 19),
		strings.Repeat("a", 61), strings.Repeat("\xff", 61), strings.Repeat(".", 61), strings.Repeat("\u00fc", 31),
	} {
		expect(t, host, "", "", suffix.ErrLong)
	}
	expectNoHost(t, strings.Repeat("a", 60), strings.Repeat("\xff", 60), strings.Repeat(".", 60), strings.Repeat("\u00fc", 30))
}

// TestLongTextIsNotRead: nothing is made of a text before its length is known to be right.
func TestLongTextIsNotRead(t *testing.T) {
	host := strings.Repeat("a.", 10000000)
	if n := testing.AllocsPerRun(10, func() { expect(t, host, "", "", suffix.ErrLong) }); n != 0 {
		t.Errorf("P1: %v pieces of memory for a text that is too long", n)
	}
}

func TestLengthOfLabel(t *testing.T) {
	expectSame(t, strings.Repeat("a", 20), "b."+strings.Repeat("a", 20)+".c")
	expectNoHost(t, strings.Repeat("a", 21), "b."+strings.Repeat("a", 21)+".c")
	expectForeign(t, strings.Repeat("\u00fc", 14), "xn--td"+strings.Repeat("a", 14))
	expectNoHost(t, strings.Repeat("\u00fc", 15), "xn--td"+strings.Repeat("a", 15))
	expectForeign(t, strings.Repeat("a", 12)+"\u00fc", "xn--aaaaaaaaaaaa-olb")
	expectNoHost(t, strings.Repeat("a", 13)+"\u00fc")
	// Many bytes of UTF-8, but few of the code.
	expectForeign(t, strings.Repeat("\u4e2d", 12), "xn--fiq"+strings.Repeat("a", 11))
}

func TestNumberOfLabels(t *testing.T) {
	expectSame(t, "a.b.c.d.e.f")
	expectForeign(t, "\u00fc.b.c.d.e.f", "xn--tda.b.c.d.e.f")
	expectNoHost(t, "a.b.c.d.e.f.g", "\u00fc.b.c.d.e.f.g", strings.Repeat("a.", 29)+"a")
}

func TestLengthOfPlainForm(t *testing.T) {
	// Three labels of 12 bytes, 18 in plain form, and what is left.
	three := strings.Repeat("aaaaaaaaaa\u00fc.", 3)
	threePlain := strings.Repeat("xn--aaaaaaaaaa-jeb.", 3)
	expectForeign(t, three+"abc", threePlain+"abc")
	if plain, _ := suffix.Plain(three + "abc"); len(plain) != 60 {
		t.Errorf("the plain form has %d bytes, the test wants one of 60", len(plain))
	}
	expectNoHost(t, three+"abcd", three+"\u00fc")
	// The letters may have more bytes than their plain form: what is handed in is what is bounded.
	shown := strings.Repeat("\u4e2d", 12)
	expect(t, "xn--fiq"+strings.Repeat("a", 11)+".xn--fiq"+strings.Repeat("a", 11), "xn--fiqaaaaaaaaaaa.xn--fiqaaaaaaaaaaa", shown+"."+shown, suffix.OK)
	expect(t, shown+"."+shown, "", "", suffix.ErrLong)
}

func TestLastLabelOfDigits(t *testing.T) {
	expectNoHost(t, "0", "9", "123", "a.5", "a.0123456789", "\u00fc.1", "xn--tda.1")
	expectSame(t, "5.a", "1.2.3.x4", "a.4x", "a.1-2", "0.0.0.0.0.a")
}

func TestHyphens(t *testing.T) {
	expectNoHost(t, "-", "--", "-a", "a-", "-a-", "b.-a.c", "b.a-.c", "b.-", "-.b", "1-", "-1")
	expectSame(t, "a-b", "a--b", "a---b", "1-2.a")
	// What counts is the plain form.
	expectForeign(t, "-\u00fc", "xn----eha")
	expectForeign(t, "\u00fc-", "xn----dha")
	expectForeign(t, "--\u00fc", "xn-----yka")
}

func TestMarkedLabels(t *testing.T) {
	expectForeign(t, "\u0082\u0081\u0080", "xn--abc")
	expectForeign(t, "a-\u00fc-b", "xn--a--b-1ra")
	// Not all letters are plain here: what stands behind the mark needs to be no code.
	expectForeign(t, "xn--\u00fc", "xn--xn---3ra")
	expectNoHost(t,
		"xn--", "xn---", "XN--", "xn--.a", "a.xn--", // no letters
		"xn--b-", "xn--a-b-", // none of them foreign
		"xn--b", "xn--bb", "xn--td", "xn--bcher-kv", // a number that does not end
		"xn---tda", "xn---a", "xn--tda-", // a hyphen that no code has
		"xn--ib9b", "xn--zy0c", "xn--a-qc4g", "xn--tda2021i", // code points from 55296 to 57343
		"xn--en32g", "xn--dn32gb", "xn--a-i023p", // code points above 1114111
		"xn--99999999999", "xn--9999999999999999", "xn--a-99999999999999", // numbers above all
		"a.xn--b.c", "xn--b.xn--tda", "xn--tda.xn--b",
	)
}

func TestEmptyLabels(t *testing.T) {
	expectNoHost(t, "", ".", "..", "a.", ".a", "a..b", ".a.b", "a.b.", "\u00fc.", ".\u00fc", "a...........b")
}

func TestOtherSigns(t *testing.T) {
	const plain = "abcdefghijklmnopqrstuvwxyzABCDEFGHIJKLMNOPQRSTUVWXYZ0123456789-."
	for c := range rune(128) {
		if sign := string(c); !strings.Contains(plain, sign) {
			expectNoHost(t, sign, "a"+sign+"a", sign+"a", "a"+sign, "\u00fc"+sign+"\u00fc", "xn--td"+sign+"a", "xn--a"+sign+"a-tda", "a"+sign+"a.b")
		}
	}
}

func TestBrokenUTF8(t *testing.T) {
	for _, broken := range []string{
		"\x80", "\xbf", "\xff", "\xfe", "\xc3", "\xe4\xb8", "\xf0\x9f\x98", // too much or too little
		"\xed\xa0\x80", "\xed\xbf\xbf", // from 55296 to 57343
		"\xf4\x90\x80\x80", "\xf7\xbf\xbf\xbf", "\xf8\x88\x80\x80\x80", // above 1114111
		"\xc0\x80", "\xc1\xa1", "\xc1\xbf", "\xe0\x80\xa1", "\xe0\x9f\xbf", "\xf0\x80\x81\xa1", "\xf0\x8f\xbf\xbf", // in more bytes than they need
	} {
		expectNoHost(t, broken, "a"+broken, broken+"a", "\u00fc"+broken, "a."+broken, broken+".a", "a."+broken+".b")
	}
	expectNoHost(t, "\xc3.\xbc", "a.b\xc3")
}

// TestAgain: what is shown has the same plain form, and the plain form of that is itself.
func TestAgain(t *testing.T) {
	for _, host := range []string{"a", "Example.COM", "b\u00fccher.de", "xn--abc.xn--bcher-kvx", "xn--\u00fc.-\u00fc-", "\U0010ffff.\u0080\u0080a"} {
		plain, _ := suffix.Plain(host)
		shown, _ := suffix.Shown(host)
		if plain == "" || shown == "" {
			t.Errorf("P3: %q is a host", host)
		}
		expect(t, plain, plain, shown, suffix.OK)
		expect(t, shown, plain, shown, suffix.OK)
	}
}

// TestAnswersAreNewMemory: an answer keeps no text alive that was handed in.
func TestAnswersAreNewMemory(t *testing.T) {
	for _, host := range []string{"a", "example", "example.com"} {
		plain, _ := suffix.Plain(host)
		shown, _ := suffix.Shown(host)
		if unsafe.StringData(plain) == unsafe.StringData(host) || unsafe.StringData(shown) == unsafe.StringData(host) {
			t.Errorf("an answer for %q shares its memory", host)
		}
	}
}
