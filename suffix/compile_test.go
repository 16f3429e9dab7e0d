package suffix_test

import (
	"slices"
	"strings"
	"testing"

	"suffix/automaton"
	"suffix/suffix"
)

const comImage = "\x00\x06\x00\x01i\x00\x00\x01$\x00\x01\x01m\x00\x02\x01o\x00\x03\x01c\x00\x04"

func expectImage(t *testing.T, want string, lists ...string) {
	t.Helper()
	if got, err, at := suffix.Compile(lists...); got != want || err != suffix.OK || at != 0 {
		t.Errorf("P4: Compile(%.90q) = %.90q, %d, %d, want %.90q", lists, got, err, at, want)
	}
}

func expectKeys(t *testing.T, keys []string, lists ...string) {
	t.Helper()
	expectImage(t, automaton.Image(keys...), lists...)
}

func expectRefusal(t *testing.T, want suffix.Errno, line int, lists ...string) {
	t.Helper()
	if got, err, at := suffix.Compile(lists...); got != "" || err != want || at != line {
		t.Errorf("P4: Compile(%.90q) = %.90q, %d, %d, want %d, %d", lists, got, err, at, want, line)
	}
}

// manyRules tells lines of so many rules, all of them other ones.
func manyRules(count int) string {
	var out strings.Builder
	for i := range count {
		out.WriteString("x" + string(rune('a'+i/26)) + string(rune('a'+i%26)) + "\n")
	}
	return out.String()
}

func TestCompileExamples(t *testing.T) {
	expectImage(t, comImage, "com")
	expectKeys(t, []string{"com$i", "uk$i", "uk.co$i", "ck*i", "ck.www!i", "com.blogspot$p"}, "com\nuk\nco.uk\n*.ck\n!www.ck\n===p\nblogspot.com\n")
}

func TestImageByBytes(t *testing.T) {
	// One rule of each kind, and the other section.
	expectImage(t, "\x00\x04\x00\x01i\x00\x00\x01$\x00\x01\x01a\x00\x02", "a")
	expectImage(t, "\x00\x04\x00\x01i\x00\x00\x01*\x00\x01\x01a\x00\x02", "*.a")
	expectImage(t, "\x00\x06\x00\x01i\x00\x00\x01!\x00\x01\x01b\x00\x02\x01.\x00\x03\x01a\x00\x04", "!b.a")
	expectImage(t, "\x00\x04\x00\x01p\x00\x00\x01$\x00\x01\x01a\x00\x02", "===p\na")
	// Shared endings; shared beginnings; both.
	expectImage(t, "\x00\x05\x00\x01i\x00\x00\x01$\x00\x01\x01z\x00\x02\x02a\x00\x03b\x00\x03", "az\nbz")
	expectImage(t, "\x00\x04\x00\x01i\x00\x00\x02$\x00\x01*\x00\x01\x01a\x00\x02", "*.a\na")
	expectImage(t, "\x00\x06\x00\x01i\x00\x00\x01$\x00\x01\x01c\x00\x02\x02b\x00\x03d\x00\x03\x01a\x00\x04", "abc\nadc")
	// A host that is the beginning of another, or its end.
	expectImage(t, "\x00\x05\x00\x01i\x00\x00\x01$\x00\x01\x02$\x00\x01b\x00\x02\x01a\x00\x03", "a\nab")
	expectImage(t, "\x00\x06\x00\x01i\x00\x00\x01$\x00\x01\x01b\x00\x02\x02$\x00\x01.\x00\x03\x01a\x00\x04", "a\nb.a")
	expectImage(t, "\x00\x07\x00\x01i\x00\x00\x01$\x00\x01\x01a\x00\x02\x02$\x00\x01.\x00\x03\x02$\x00\x01b\x00\x04\x02a\x00\x02b\x00\x05", "bb\na\na.bb\nb")
	// The same but for the section: not one state.
	expectImage(t, "\x00\x06\x00\x01i\x00\x00\x01$\x00\x01\x01p\x00\x00\x01$\x00\x03\x02a\x00\x02b\x00\x04", "a\n===p\nb")
}

func TestKeys(t *testing.T) {
	expectKeys(t, []string{"a$i", "a*i", "a.b$i", "a.b*i", "a.b!i"}, "a\n*.a\nb.a\n*.b.a\n!b.a")
	expectKeys(t, []string{"f.e.d.c.b.a$i", "f.e.d.c.b.a*p", "f.e.d.c.b.a!p"}, "a.b.c.d.e.f\n===p\n*.a.b.c.d.e.f\n!a.b.c.d.e.f")
	expectKeys(t, []string{"com.a-b$i", "com.1$i", "x1$i"}, "a-b.com\n1.com\nx1")
	expectKeys(t, []string{"xn--wgv71a.xn--tda*i"}, "*.\u00fc.\u65e5\u672c")
}

func TestNoRules(t *testing.T) {
	const none = "\x00\x00"
	expectImage(t, none)
	expectImage(t, none, "")
	expectImage(t, none, "", "", "")
	expectImage(t, none, "\n")
	expectImage(t, none, "\n\n\n", "// a remark", "//", "===p\n===i\n===i", "===p")
}

func TestLines(t *testing.T) {
	expectImage(t, comImage, "com\n")
	expectImage(t, comImage, "\n\ncom\n\n")
	expectImage(t, comImage, "// com\n//\n///\ncom\n//com")
	expectImage(t, comImage, "// \xff\x00\r*.\n//===p\ncom")
	expectKeys(t, []string{"a$i", "b$i"}, "a\nb")
	expectKeys(t, []string{"a$i", "b$i"}, "a\n\n// x\n\nb\n")
}

func TestSections(t *testing.T) {
	expectKeys(t, []string{"a$i", "b$p", "c$p", "d$i", "e$p"}, "a\n===p\nb\nc\n===i\nd\n===p\n===p\ne")
	expectKeys(t, []string{"a$i"}, "===i\na")
	expectKeys(t, []string{"a*p", "b.a!p", "c*i", "b.c!i"}, "===p\n*.a\n!a.b\n===i\n*.c\n!c.b")
}

func TestSeveralLists(t *testing.T) {
	// A list's end is a line's end, and each list begins with section i.
	expectKeys(t, []string{"a$i", "b$i"}, "a", "b")
	expectKeys(t, []string{"a$i", "b$i"}, "", "a\n", "", "b\n", "")
	expectKeys(t, []string{"a$p", "b$i", "c$p", "d$i"}, "===p\na", "b\n===p\nc", "", "d")
	expectKeys(t, []string{"a$i"}, "===p", "a")
	expectRefusal(t, suffix.ErrList, 0, "=", "==p", "a")
	expectRefusal(t, suffix.ErrList, 1, "a", "/", "/ b")
}

func TestLinesAreCountedThroughAllLists(t *testing.T) {
	for _, c := range []struct {
		line  int
		lists []string
	}{
		{0, []string{"-"}}, {0, []string{"-\n-"}}, {0, []string{"", "", "-"}},
		{1, []string{"a\n-"}}, {1, []string{"a", "-"}}, {1, []string{"a\n", "-"}}, {1, []string{"\n", "-"}},
		{2, []string{"a\n\n", "-"}}, {2, []string{"a\n\n-"}}, {2, []string{"// x\n===p", "-"}},
		{5, []string{"a\nb\n", "", "c", "\n===p", "- \n-"}},
		{1999, []string{strings.Repeat("\n", 1999) + "-"}},
		{1998, []string{strings.Repeat("\n", 999), strings.Repeat("\n", 999), "-"}},
	} {
		expectRefusal(t, suffix.ErrList, c.line, c.lists...)
	}
	expectRefusal(t, suffix.ErrTwice, 4, "a\n// x\n", "\n", "b\na\n-")
	expectRefusal(t, suffix.ErrMany, 32, "\n"+manyRules(10), manyRules(30)[40:], "// x\nmore")
}

func TestLengthOfLists(t *testing.T) {
	remark := "//" + strings.Repeat("x", 1998)
	expectImage(t, "\x00\x00", remark)
	expectImage(t, "\x00\x00", strings.Repeat("\n", 2000))
	expectImage(t, comImage, "com\n"+remark[:1996])
	expectImage(t, comImage, remark[:997], "com", remark[:1000])
	for _, lists := range [][]string{
		{remark + "x"}, {strings.Repeat("\n", 2001)}, {remark, "x"}, {"x", remark}, {remark, "", "\n"},
		{remark[:1000], remark[:1001]}, {"-", remark}, {"a\na\n", remark}, {manyRules(31), remark},
		{remark, remark, remark},
	} {
		expectRefusal(t, suffix.ErrLong, 0, lists...)
	}
}

// TestLongListsAreNotRead: nothing is made of lists before their length is known to be right.
func TestLongListsAreNotRead(t *testing.T) {
	lists := []string{"com\n-\n", strings.Repeat("a\n", 10000000)}
	if n := testing.AllocsPerRun(10, func() { expectRefusal(t, suffix.ErrLong, 0, lists...) }); n != 0 {
		t.Errorf("P1: %v pieces of memory for lists that are too long", n)
	}
}

func TestNumberOfRules(t *testing.T) {
	var keys []string
	for line := range strings.Lines(manyRules(30)) {
		keys = append(keys, strings.TrimSuffix(line, "\n")+"$i")
	}
	expectKeys(t, keys, manyRules(30))
	expectKeys(t, keys, manyRules(30)+"\n// more\n===p\n===i", "", "// more")
	expectKeys(t, keys, manyRules(10), manyRules(30)[40:])
	expectRefusal(t, suffix.ErrMany, 30, manyRules(31))
	expectRefusal(t, suffix.ErrMany, 30, manyRules(30), "more")
	expectRefusal(t, suffix.ErrMany, 31, manyRules(30)+"===p\n*.xaa\n-")
	expectRefusal(t, suffix.ErrMany, 30, manyRules(30)+"!a.b")
}

// TestGreatImage: the longest hosts, as many as there may be, with little in common.
func TestGreatImage(t *testing.T) {
	var lists, keys []string
	for i := range 30 {
		sign := string(rune('a'+i/26)) + string(rune('a'+i%26))
		label := strings.Repeat(sign, 10)
		lists = append(lists, "*."+label[:18]+"."+label+"."+label)
		keys = append(keys, label+"."+label+"."+label[:18]+"*i")
	}
	expectKeys(t, keys, lists...)
	if image, _, _ := suffix.Compile(lists...); len(image) < 7000 || len(image) > 8000 {
		t.Errorf("the image has %d bytes", len(image))
	}
}

func TestGreatAndForeignLettersInRules(t *testing.T) {
	expectImage(t, comImage, "COM")
	expectImage(t, comImage, "cOm\n")
	expectKeys(t, []string{"xn--tda$i"}, "\u00fc")
	expectKeys(t, []string{"xn--tda$i"}, "XN--TDA")
	expectKeys(t, []string{"de.xn--bcher-kva$i", "de.xn--bcher-kva*i", "de.xn--bcher-kva!p"}, "B\u00fcCHER.De\n*.b\u00fccher.dE\n===p\n!xN--bcher-kva.DE")
	// There is no greater or smaller among foreign letters.
	expectKeys(t, []string{"xn--tda$i", "xn--wca$i"}, "\u00fc\n\u00dc")
}

func TestRulesThatThereAre(t *testing.T) {
	for _, line := range []string{"a", "*.a", "!b.a", "\u00fc", "*.\u00fc", "!\u00fc.a"} {
		expectRefusal(t, suffix.ErrTwice, 1, line+"\n"+line)
		expectRefusal(t, suffix.ErrTwice, 1, line, line)
		expectRefusal(t, suffix.ErrTwice, 2, line+"\n===p\n"+line)
		expectRefusal(t, suffix.ErrTwice, 2, line, "===p\n"+line)
		expectRefusal(t, suffix.ErrTwice, 2, "===p\n"+line, line)
		expectRefusal(t, suffix.ErrTwice, 4, "c\n"+line+"\nd\n\n"+line+"\ne")
		expectRefusal(t, suffix.ErrTwice, 1, line+"\n"+strings.ToUpper(strings.ReplaceAll(line, "\u00fc", "xn--tda")))
	}
	expectRefusal(t, suffix.ErrTwice, 1, "xn--tda\n\u00fc")
	expectRefusal(t, suffix.ErrTwice, 1, "com\nCom")
	// Known by kind and host: these are all other ones.
	expectKeys(t, []string{"a.b$i", "a.b*i", "a.b!i", "b.a$i", "a$i", "b$i", "a.b.b$i"}, "b.a\n*.b.a\n!b.a\na.b\na\nb\nb.b.a")
}

func TestWhichErrorComesFirst(t *testing.T) {
	full := manyRules(30)
	// By lines, whichever they are.
	expectRefusal(t, suffix.ErrList, 1, "a\n-\na\n"+full)
	expectRefusal(t, suffix.ErrTwice, 1, "a\na\n-\n"+full)
	expectRefusal(t, suffix.ErrMany, 30, full+"more\n-\nxaa")
	// In one line: what is no rule is not held against others, and one that there is already is none more.
	expectRefusal(t, suffix.ErrList, 30, full+"-")
	expectRefusal(t, suffix.ErrList, 30, full+"!xaa")
	expectRefusal(t, suffix.ErrTwice, 30, full+"xaa")
	expectRefusal(t, suffix.ErrTwice, 31, full, "===p\nXAD")
}

func TestExceptions(t *testing.T) {
	expectKeys(t, []string{"ck.www!i"}, "!www.ck")
	expectKeys(t, []string{"c.b.a!i"}, "!a.b.c")
	for _, line := range []string{"!com", "!\u00fc", "!xn--tda", "!a.", "!.a", "!a..b", "!a.1"} {
		expectRefusal(t, suffix.ErrList, 0, line)
	}
}

func TestWrongLines(t *testing.T) {
	for _, line := range []string{
		" ", "\t", "a b", " a", "a ", " // x", "a // x", "/", "/a", "/ /", // blanks, and half of a remark
		"\r", "a\r", "// x\n\r", "===i\r", "a\rb", // a carriage return ends no line
		"*", "*.", "*a", "*..a", ".*", "a.*", "*.*", "*.*.a", "a.*.b", "**.a", "* .a", "*. a", "*.a.*",
		"!", "!!", "!!a.b", "!*.a.b", "*.!a.b", "! a.b", "!a.b ", "!*", "!*.", "a!b.c", "a.b!",
		"=", "==", "===", "====", "===x", "===I", "===P", "===ip", "===pp", "===i ", "===p ", "===p\r", "=== i", " ===i", "==i", "===ii", "===\u0131",
		".", "a.", ".a", "a..b", "-a", "a-", "a_b", "1", "1.2.3.4", "*.1", "!a.2", "xn--b", "*.xn--b", "!a.xn--b", // no hosts
		"a.b.c.d.e.f.g", "*.a.b.c.d.e.f.g", "!a.b.c.d.e.f.g", strings.Repeat("a", 21), strings.Repeat("a", 61),
		strings.Repeat("\u00fc", 31), "a$", "a$i", "a\x00", "\x00", "a,b", "a/", "a//b", "a:80",
		"\xff", "a\xff", "*.\xff", "!a.\xc3", "\xed\xa0\x80", "\xc0\xaf\xc0\xaf", "\xef\xbb\xbfcom\xff", // broken UTF-8
	} {
		skipped := strings.Count(line, "\n")
		expectRefusal(t, suffix.ErrList, skipped, line)
		expectRefusal(t, suffix.ErrList, skipped+2, "com\n===p\n"+line+"\ncom\n")
		expectRefusal(t, suffix.ErrList, skipped+1, "com", line, "com")
	}
}

// TestLengthOfHostInRule: what stands ahead of a host is none of its bytes.
func TestLengthOfHostInRule(t *testing.T) {
	full := strings.Repeat("a", 20)
	longest := strings.Repeat("b", 18) + "." + full + "." + full
	key := full + "." + full + "." + strings.Repeat("b", 18)
	expectKeys(t, []string{key + "$i", key + "*i", key + "!i"}, longest+"\n*."+longest+"\n!"+longest)
	for _, ahead := range []string{"", "*.", "!"} {
		expectRefusal(t, suffix.ErrList, 0, ahead+"b"+longest)
	}
}

func TestListsAreNotWrittenInto(t *testing.T) {
	lists := []string{"uk\n===p\ncom", "===p\n*.A", "", "beyond", "-"}
	kept := slices.Clone(lists)
	for end := range len(lists) + 1 {
		suffix.Compile(lists[:end]...)
		if !slices.Equal(lists, kept) {
			t.Errorf("P2: the lists are %q now, want %q", lists, kept)
		}
	}
}

// TestCompileAgain: one call leaves nothing behind for the next.
func TestCompileAgain(t *testing.T) {
	for range 3 {
		expectImage(t, comImage, "com")
		expectRefusal(t, suffix.ErrTwice, 2, "com\nuk\ncom")
		expectRefusal(t, suffix.ErrMany, 30, manyRules(31))
		expectImage(t, "\x00\x00")
		expectKeys(t, []string{"a$p"}, "===p\na")
	}
}

// TestSameImages: neither the order of rules, nor remarks, nor greater letters tell.
func TestSameImages(t *testing.T) {
	want, _, _ := suffix.Compile("com\nuk\nco.uk\n*.ck\n!www.ck\n===p\nblogspot.com\n\u00fc.com")
	expectImage(t, want, "// first\n!WWW.ck\nuk\n\n*.CK\nCo.Uk\ncom\n===p\nxn--TDA.com\n// last\nBlogSpot.com\n")
	expectImage(t, want, "===p\n\u00fc.com\n===i\nuk\n!www.ck", "===p\nblogspot.com", "com\nco.uk", "*.ck")
}
