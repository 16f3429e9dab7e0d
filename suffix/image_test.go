package suffix_test

import (
	"slices"
	"strings"
	"testing"

	"suffix/automaton"
	"suffix/suffix"
)

// exampleList is that of the document's examples.
const exampleList = "com\nuk\nco.uk\n*.ck\n!www.ck\n===p\nblogspot.com\n"

func compiled(t *testing.T, lists ...string) string {
	t.Helper()
	image, err, line := suffix.Compile(lists...)
	if err != suffix.OK {
		t.Fatalf("P4: Compile(%.90q) = %d, %d", lists, err, line)
	}
	return image
}

// expectRules asks for the rules of lists, and for the image of these again.
func expectRules(t *testing.T, want string, lists ...string) {
	t.Helper()
	image := compiled(t, lists...)
	if got, err := suffix.Rules(image); got != want || err != suffix.OK {
		t.Errorf("P5: the rules of %.90q are %.90q, %d, want %.90q", lists, got, err, want)
	}
	if again := compiled(t, want); again != image {
		t.Errorf("P10: the image of %.90q is %.90q, want %.90q", want, again, image)
	}
}

// expectNoImage asks Rules, New, and Lookup with a host and without one: the image is what is wrong first.
func expectNoImage(t *testing.T, want suffix.Errno, image string) {
	t.Helper()
	if got, err := suffix.Rules(image); got != "" || err != want {
		t.Errorf("P5: Rules(%.90q) = %q, %d, want %d", image, got, err, want)
	}
	if world, err := suffix.New(image); world != nil || err != want {
		t.Errorf("P7: New(%.90q) = %v, %d, want %d", image, world, err, want)
	}
	for _, host := range []string{"a.com", "-", "", strings.Repeat("a", 61)} {
		if public, domain, section, err := suffix.Lookup(image, host); public != "" || domain != "" || section != "" || err != want {
			t.Errorf("P6: Lookup(%.90q, %q) = %q, %q, %q, %d, want %d", image, host, public, domain, section, err, want)
		}
	}
}

func TestRules(t *testing.T) {
	expectRules(t, "*.ck\n!www.ck\ncom\nuk\nco.uk\n===p\nblogspot.com\n", exampleList)
	expectRules(t, "")
	expectRules(t, "", "// no rule\n===p\n\n")
	// One rule of each kind in each section.
	expectRules(t, "com\n", "com")
	expectRules(t, "*.ck\n", "*.ck")
	expectRules(t, "!www.ck\n", "!www.ck")
	expectRules(t, "===p\ncom\n", "===p\ncom")
	expectRules(t, "===p\n*.ck\n", "===p\n*.ck")
	expectRules(t, "===p\n!www.ck\n", "===p\n!www.ck")
	expectRules(t, "a\n!b.a\n===p\n*.a\n", "===p\n*.a\n===i\n!b.a\na")
}

// TestOrderOfRules: by the bytes of the keys, not by those of the lines.
func TestOrderOfRules(t *testing.T) {
	expectRules(t, "b\nz.b\nc\na.c\n", "a.c", "z.b", "c", "b")
	expectRules(t, "a\n*.a\n!b.a\nb.a\n*.b.a\n", "*.b.a\n*.a\n!b.a\nb.a\na")
	// Of the bytes of keys `$`, `*`, `-` and `.` stand in this order, then digits and letters.
	expectRules(t, "a\n*.a\na-b\nb.a\na1\nab\n", "ab", "a1", "b.a", "a-b", "*.a", "a")
	expectRules(t, "a\nc.b.a\nc\n===p\n*.a\nb.a\nb\n", "===p\nb\nb.a\n*.a\n===i\nc.b.a\nc\na")
	expectRules(t, "de\nxn--bcher-kva.de\nxn--tda\n", "\u00fc\nb\u00fccher.de\nDE")
}

func TestRulesOfLongHosts(t *testing.T) {
	full := strings.Repeat("a", 20)
	longest := strings.Repeat("b", 18) + "." + full + "." + full
	expectRules(t, "!"+longest+"\n"+longest+"\n*."+longest+"\n", "*."+longest+"\n"+longest+"\n!"+longest)
	expectRules(t, "*.a.b.c.d.e.f\n", "*.a.b.c.d.e.f")
}

func TestRulesOfManyRules(t *testing.T) {
	expectRules(t, manyRules(30), manyRules(30))
	expectRules(t, "===p\n"+manyRules(30), "===p\n"+manyRules(30))
	// The longest lines that there can be.
	var lines []string
	for i := range 30 {
		label := strings.Repeat(string(rune('a'+i/26))+string(rune('a'+i%26)), 10)
		lines = append(lines, "*."+label[:18]+"."+label+"."+label+"\n")
	}
	expectRules(t, "===p\n"+strings.Join(lines, ""), "===p\n"+strings.Join(lines, ""))
	expectRules(t, lines[29]+"===p\n"+strings.Join(lines[:29], ""), lines[29], "===p\n"+strings.Join(lines[:29], ""))
}

func TestSameRules(t *testing.T) {
	for _, lists := range [][]string{
		{"\u00fc.com\n*.b\u00fccher.de\n===p\n!\u65e5\u672c.jp"},
		{"*.b\u00fccher.de\n\u00fc.com\n===p\n!\u65e5\u672c.jp"},
		{"XN--TDA.Com\n*.xn--BCHER-kva.dE\n===p\n!xn--wgv71A.JP"},
		{"// first", "===p\n// more\n\n!xn--wgv71a.jp", "xn--tda.com", "*.B\u00fccher.DE\n"},
	} {
		expectRules(t, "xn--tda.com\n*.xn--bcher-kva.de\n===p\n!xn--wgv71a.jp\n", lists...)
	}
}

// TestAllOrdersOfRules: the order in a section does not tell.
func TestAllOrdersOfRules(t *testing.T) {
	lines := []string{"a", "*.a", "!b.a", "b.a"}
	count := 0
	var orders func(taken []string)
	orders = func(taken []string) {
		if len(taken) == len(lines) {
			count++
			expectRules(t, "a\n*.a\n!b.a\nb.a\n", taken...)
			expectRules(t, "===p\na\n*.a\n!b.a\nb.a\n", "===p\n"+strings.Join(taken, "\n// x\n"))
		}
		for _, line := range lines {
			if !slices.Contains(taken, line) {
				orders(append(slices.Clone(taken), line))
			}
		}
	}
	orders(nil)
	if count != 24 {
		t.Errorf("there were %d orders", count)
	}
}

func TestLengthOfImages(t *testing.T) {
	com := compiled(t, "com")
	for _, filler := range []string{"x", "\x00", "\x01", "\xff"} {
		for _, image := range []string{strings.Repeat(filler, 8001), com + strings.Repeat(filler, 8001-len(com)), strings.Repeat(filler, 100000)} {
			expectNoImage(t, suffix.ErrLong, image)
		}
		for _, image := range []string{strings.Repeat(filler, 8000), com + strings.Repeat(filler, 8000-len(com)), strings.Repeat(filler, 7999)} {
			expectNoImage(t, suffix.ErrImage, image)
		}
	}
}

// TestLongImagesAreNotRead: nothing is made of an image before its length is known to be right.
func TestLongImagesAreNotRead(t *testing.T) {
	image := compiled(t, exampleList) + strings.Repeat("x", 10000000)
	if n := testing.AllocsPerRun(10, func() { expectNoImage(t, suffix.ErrLong, image) }); n > 1 {
		t.Errorf("P1: %v pieces of memory for an image that is too long", n)
	}
}

func TestShortTexts(t *testing.T) {
	expectNoImage(t, suffix.ErrImage, "")
	for _, list := range []string{"com", "===p\n*.ck\n!www.ck", exampleList} {
		image := compiled(t, list)
		for end := range len(image) {
			expectNoImage(t, suffix.ErrImage, image[:end])
		}
		for start := range len(image) - 1 {
			expectNoImage(t, suffix.ErrImage, image[start+1:])
		}
	}
}

// TestOneByteMoreOrLess: at no place may there be one more or one less.
func TestOneByteMoreOrLess(t *testing.T) {
	for _, list := range []string{"", "com", "a\nb\n*.b", exampleList} {
		image := compiled(t, list)
		for at := range len(image) + 1 {
			for sign := range 256 {
				expectNoImage(t, suffix.ErrImage, image[:at]+string([]byte{byte(sign)})+image[at:])
			}
			if at < len(image) {
				expectNoImage(t, suffix.ErrImage, image[:at]+image[at+1:])
			}
		}
	}
}

// TestOneByteChanged: what is an image then is told for each byte of that of `com`.
func TestOneByteChanged(t *testing.T) {
	const plain = "abcdefghijklmnopqrstuvwxyz0123456789"
	right := map[byte]string{'i': "ip", '$': "$*", 'm': plain, 'o': plain + "-.", 'c': plain}
	for at := range len(comImage) {
		may, there := right[comImage[at]]
		if !there {
			may = comImage[at : at+1]
		}
		for sign := range 256 {
			image := comImage[:at] + string([]byte{byte(sign)}) + comImage[at+1:]
			if strings.IndexByte(may, byte(sign)) < 0 {
				expectNoImage(t, suffix.ErrImage, image)
				continue
			}
			if list, err := suffix.Rules(image); err != suffix.OK || compiled(t, list) != image {
				t.Errorf("P5: Rules(%q) = %q, %d", image, list, err)
			}
		}
	}
}

// TestOneByteChangedOfMore: whatever is taken for an image is the one of its rules.
func TestOneByteChangedOfMore(t *testing.T) {
	for _, list := range []string{"", "a\nb\n*.b", "a\n*.a\n!b.a\n===p\nb.a", "\u00fc.a1\na1", exampleList} {
		image := compiled(t, list)
		for at := range len(image) {
			for sign := range 256 {
				changed := image[:at] + string([]byte{byte(sign)}) + image[at+1:]
				list, err := suffix.Rules(changed)
				switch {
				case err == suffix.OK && compiled(t, list) == changed:
				case err == suffix.ErrImage && list == "":
					expectNoImage(t, suffix.ErrImage, changed)
				default:
					t.Errorf("P5: Rules(%q) = %q, %d", changed, list, err)
				}
			}
		}
	}
}

// imageOf writes an image from what it tells of each state.
func imageOf(states ...string) string {
	return string([]byte{byte(len(states) >> 8), byte(len(states))}) + strings.Join(states, "")
}

// TestOtherStates: automata that hold keys of rules, but are not the image of them.
func TestOtherStates(t *testing.T) {
	const (
		i      = "\x01i\x00\x00"
		dollar = "\x01$\x00\x01"
	)
	if got := imageOf("\x00", i, dollar, "\x02a\x00\x02b\x00\x02"); got != compiled(t, "a\nb") {
		t.Fatalf("the image of two rules is written as %q", got)
	}
	for _, image := range []string{
		imageOf("\x00"), imageOf(""), imageOf("\x00", i), imageOf("\x00", "\x01$\x00\x00"),
		// States that could be one.
		imageOf("\x00", i, dollar, i, "\x01$\x00\x03", "\x02a\x00\x02b\x00\x04"),
		imageOf("\x00", i, dollar, dollar, "\x02a\x00\x02b\x00\x03"),
		imageOf("\x00", i, i, "\x02$\x00\x01*\x00\x02", "\x01a\x00\x03"),
		// States in another order.
		imageOf("\x00", "\x01p\x00\x00", "\x01$\x00\x01", i, "\x01$\x00\x03", "\x02a\x00\x04b\x00\x02"),
		imageOf("\x00", i, "\x01p\x00\x00", "\x01$\x00\x01", "\x01$\x00\x02", "\x02a\x00\x03b\x00\x04"),
		imageOf("\x00", i, "\x01a\x00\x03", "\x01$\x00\x01"),
		imageOf("\x01a\x00\x01", "\x01$\x00\x02", "\x01i\x00\x03", "\x00"),
		// States that nothing goes to: ahead of the others, among them, behind them.
		imageOf("\x00", "\x01x\x00\x00", i, "\x01$\x00\x02", "\x01a\x00\x03"),
		imageOf("\x00", i, dollar, "\x01x\x00\x02", "\x01a\x00\x02"),
		imageOf("\x00", i, dollar, "\x01a\x00\x02", "\x01$\x00\x01"),
		imageOf("\x00", "\x00", "\x01i\x00\x01", "\x01$\x00\x02", "\x01a\x00\x03"),
		imageOf("\x00", "\x00", i, "\x01$\x00\x02", "\x01a\x00\x03"),
		// Edges to states that have no number yet, or none at all.
		imageOf("\x00", i, dollar, "\x01a\x00\x03"),
		imageOf("\x00", i, dollar, "\x02a\x00\x02b\x00\x03"),
		imageOf("\x00", i, "\x02$\x00\x01a\x00\x03", "\x01a\x00\x02"),
		imageOf("\x00", i, dollar, "\x01a\x00\x04"),
		imageOf("\x00", i, dollar, "\x01a\xff\xff"),
		imageOf("\x01i\x00\x00", dollar, "\x01a\x00\x01"),
		imageOf("\x01i\x00\x00"),
		// A state without edges that is not the last one.
		imageOf("\x00", i, dollar, "\x00", "\x02a\x00\x02b\x00\x03"),
		// Edges out of order, or twice.
		imageOf("\x00", i, dollar, "\x02b\x00\x02a\x00\x02"),
		imageOf("\x00", i, dollar, "\x02a\x00\x02a\x00\x02"),
		imageOf("\x00", i, "\x02*\x00\x01$\x00\x01", "\x01a\x00\x02"),
		imageOf("\x00", i, "\x02$\x00\x01$\x00\x01", "\x01a\x00\x02"),
		imageOf("\x00", "\x02i\x00\x00i\x00\x00", dollar, "\x01a\x00\x02"),
		imageOf("\x00", i, "\x01$\x00\x01", "\x01*\x00\x01", "\x02a\x00\x02a\x00\x03"),
		// Two sections.
		imageOf("\x00", "\x02i\x00\x00p\x00\x00", dollar, "\x01a\x00\x02"),
	} {
		expectNoImage(t, suffix.ErrImage, image)
	}
}

// TestKeysOfNoRule: these are the images of their keys, but no rules have them.
func TestKeysOfNoRule(t *testing.T) {
	long := strings.Repeat("a", 20)
	for _, key := range []string{
		"a$", "a", "$i", "a$$i", "$", "i", "$ia$i", // parts that are not there
		"ai", "ap", "a%i", "a.i", "a$x", "a$-", "a$I", "a$$", "a*.i", "a$ii", "a$ip", "a$i\x00", "a\x00i", "a$\x00", // no kind, no section
		"!i", "*i", "*p", ".$i", ".a$i", "a.$i", "a..b$i", "a.*$i", "a.!b$i", "!a$i", "a.b.*!i", // no labels
		"A$i", "aA$i", "a.B$i", "\u00fc$i", "a.\u00fc$i", "xn--TDA$i", "xn--b$i", "a.xn--b$i", "xn--$i", "xn--a-$i", // not in plain form
		"-a$i", "a-$i", "a.-b$i", "a_b$i", "a b$i", "a/$i", "\xff$i", "a\n$i", "a:$i",
		"1$i", "1.a$i", "09*i", "1.a!i", // the last label stands first here
		"a!i", "a!p", "xn--tda!i", // exceptions of one label
		"a.b.c.d.e.f.g$i", "a.b.c.d.e.f.g*i", long + "a$i", "a." + long + "a!i",
		long + "." + long + "." + long[:19] + "$i", long + "." + long + "." + long[:19] + "*i", strings.Repeat("a", 1900) + "$i",
	} {
		expectNoImage(t, suffix.ErrImage, automaton.Image(key))
		if !strings.HasPrefix("com$i", key) && !strings.HasPrefix(key, "com$i") {
			expectNoImage(t, suffix.ErrImage, automaton.Image("com$i", key))
		}
	}
	for _, key := range []string{"a$i", "a.1$i", "1a*p", "a.b!p", "f.e.d.c.b.a$i", "xn--tda$i", long + "." + long + "." + long[:18] + "!i"} {
		if _, err := suffix.Rules(automaton.Image(key)); err != suffix.OK {
			t.Errorf("P5: the image of the key %q is refused: %d", key, err)
		}
	}
}

func TestKeysOfRulesTwice(t *testing.T) {
	for _, keys := range [][]string{
		{"a$i", "a$p"}, {"a*i", "a*p"}, {"a.b!i", "a.b!p"}, {"a$i", "b$i", "b$p", "c$i"}, {"xn--tda$i", "xn--tda$p"},
	} {
		expectNoImage(t, suffix.ErrImage, automaton.Image(keys...))
	}
}

func TestKeysOfTooManyRules(t *testing.T) {
	var keys []string
	for line := range strings.Lines(manyRules(31)) {
		keys = append(keys, strings.TrimSuffix(line, "\n")+"$i")
	}
	if list, err := suffix.Rules(automaton.Image(keys[:30]...)); list != manyRules(30) || err != suffix.OK {
		t.Errorf("P5: of 30 rules these are told: %q, %d", list, err)
	}
	expectNoImage(t, suffix.ErrImage, automaton.Image(keys...))
	keys[30] = "xaa*p"
	expectNoImage(t, suffix.ErrImage, automaton.Image(keys...))
}

// TestMoreKeysThanCanBeCounted: each of them is the key of a rule.
func TestMoreKeysThanCanBeCounted(t *testing.T) {
	states := []string{"\x00", "\x01i\x00\x00", "\x01$\x00\x01"}
	for place := range 58 {
		to := string([]byte{0, byte(len(states) - 1)})
		if place == 18 || place == 38 {
			states = append(states, "\x01."+to)
			continue
		}
		states = append(states, "\x02a"+to+"b"+to)
	}
	expectNoImage(t, suffix.ErrImage, imageOf(states...))
}

// TestRulesAgain: one call leaves nothing behind for the next.
func TestRulesAgain(t *testing.T) {
	for range 3 {
		expectRules(t, "com\n", "com")
		expectNoImage(t, suffix.ErrImage, automaton.Image("a$i", "a$p"))
		expectRules(t, "a\n===p\nb\n", "a\n===p\nb")
		expectRules(t, "")
	}
}
