package suffix_test

import (
	"strings"
	"testing"
	"unsafe"

	"suffix/suffix"
)

// expectAnswers takes answers as texts of four words: a host, its public suffix, its domain (`/`, if there is none) and the section.
func expectAnswers(t *testing.T, list string, answers ...string) {
	t.Helper()
	image := compiled(t, list)
	for _, answer := range answers {
		words := strings.Fields(answer)
		expectAnswer(t, image, words[0], [3]string{words[1], strings.TrimPrefix(words[2], "/"), words[3]})
	}
}

func expectAnswer(t *testing.T, image, host string, want [3]string) {
	t.Helper()
	public, domain, section, err := suffix.Lookup(image, host)
	if got := [3]string{public, domain, section}; got != want || err != suffix.OK {
		list, _ := suffix.Rules(image)
		t.Errorf("P6: by %.90q Lookup(.., %q) = %q, %d, want %q", list, host, got, err, want)
	}
}

func TestLookupExamples(t *testing.T) {
	expectAnswers(t, exampleList,
		"a.b.com com b.com i", "com com / i", "x.co.uk co.uk x.co.uk i", "a.b.ck b.ck a.b.ck i", "ck ck / -",
		"a.www.ck ck www.ck i", "a.blogspot.com blogspot.com a.blogspot.com p", "a.b.zz zz b.zz -")
}

func TestNoRuleFits(t *testing.T) {
	for _, list := range []string{"", "com", "*.ck", "!www.ck", exampleList} {
		expectAnswers(t, list, "zz zz / -", "a.zz zz a.zz -", "b.a.zz zz a.zz -", "f.e.d.c.b.a a b.a -", "xcom xcom / -", "a.comx comx a.comx -", "ck.a a ck.a -")
	}
}

func TestPlainRules(t *testing.T) {
	expectAnswers(t, "com", "com com / i", "a.com com a.com i", "b.a.com com a.com i", "f.e.d.c.b.com com b.com i", "xcom xcom / -", "com.a a com.a -")
	expectAnswers(t, "co.uk", "co.uk co.uk / i", "a.co.uk co.uk a.co.uk i", "b.a.co.uk co.uk a.co.uk i", "uk uk / -", "xco.uk uk xco.uk -", "a.xco.uk uk xco.uk -", "co.xuk xuk co.xuk -", "co-uk co-uk / -")
	expectAnswers(t, "a.b.c.d.e.f", "a.b.c.d.e.f a.b.c.d.e.f / i", "b.c.d.e.f f e.f -", "x.b.c.d.e.f f e.f -")
	// The one with most labels, wherever it stands.
	for _, list := range []string{"a\n===p\nb.a\n===i\nc.b.a", "c.b.a\n===p\nb.a\n===i\na"} {
		expectAnswers(t, list, "a a / i", "x.a a x.a i", "b.a b.a / p", "x.b.a b.a x.b.a p", "c.b.a c.b.a / i", "x.c.b.a c.b.a x.c.b.a i", "c.a a c.a i")
	}
}

func TestWildRules(t *testing.T) {
	// At its own host it does not fit.
	expectAnswers(t, "*.ck", "ck ck / -", "a.ck a.ck / i", "b.a.ck a.ck b.a.ck i", "c.b.a.ck a.ck b.a.ck i", "xck xck / -", "a.xck xck a.xck -")
	expectAnswers(t, "===p\n*.b.a", "a a / -", "b.a a b.a -", "c.b.a c.b.a / p", "d.c.b.a c.b.a d.c.b.a p", "c.xb.a a xb.a -")
	expectAnswers(t, "*.a\n===p\n*.b.a", "b.a b.a / i", "c.b.a c.b.a / p", "d.c.b.a c.b.a d.c.b.a p", "d.c.a c.a d.c.a i")
	// One of as many labels as a host may have never fits.
	expectAnswers(t, "*.a.b.c.d.e.f", "a.b.c.d.e.f f e.f -")
	expectAnswers(t, "*.b.c.d.e.f", "a.b.c.d.e.f a.b.c.d.e.f / i", "b.c.d.e.f f e.f -")
}

func TestPlainAgainstWildRules(t *testing.T) {
	// Of as many labels: the plain one.
	expectAnswers(t, "*.a\n===p\nb.a", "b.a b.a / p", "c.b.a b.a c.b.a p", "c.a c.a / i")
	expectAnswers(t, "b.a\n===p\n*.a", "b.a b.a / i", "c.b.a b.a c.b.a i", "c.a c.a / p")
	// Of the same host the wild one has one more, but where it does not fit.
	expectAnswers(t, "a\n===p\n*.a", "a a / i", "b.a b.a / p", "c.b.a b.a c.b.a p")
	expectAnswers(t, "*.a\n===p\na", "a a / p", "b.a b.a / i", "c.b.a b.a c.b.a i")
	expectAnswers(t, "*.a\n===p\nc.b.a", "b.a b.a / i", "c.b.a c.b.a / p", "d.c.b.a c.b.a d.c.b.a p", "d.x.b.a b.a x.b.a i")
	expectAnswers(t, "a\n===p\n*.b.a", "b.a a b.a i", "c.b.a c.b.a / p", "x.a a x.a i")
}

func TestExceptionalRules(t *testing.T) {
	expectAnswers(t, "!b.a", "a a / -", "b.a a b.a i", "c.b.a a b.a i", "d.c.b.a a b.a i", "c.a a c.a -", "xb.a a xb.a -")
	expectAnswers(t, "===p\n!c.b.a", "c.b.a b.a c.b.a p", "d.c.b.a b.a c.b.a p", "b.a a b.a -", "x.b.a a b.a -")
	expectAnswers(t, "===p\n!a.b.c.d.e.f", "a.b.c.d.e.f b.c.d.e.f a.b.c.d.e.f p", "b.c.d.e.f f e.f -")
	// Of several the one with most labels.
	for _, list := range []string{"!b.a\n===p\n!c.b.a", "===p\n!c.b.a\n===i\n!b.a"} {
		expectAnswers(t, list, "b.a a b.a i", "x.b.a a b.a i", "c.b.a b.a c.b.a p", "x.c.b.a b.a c.b.a p")
	}
	expectAnswers(t, "!b.a\n!c.b.a\n===p\n!d.c.b.a", "y.x.b.a a b.a i", "x.c.b.a b.a c.b.a i", "x.d.c.b.a c.b.a d.c.b.a p")
}

// TestExceptionsPrevail: over all others, however many labels these have.
func TestExceptionsPrevail(t *testing.T) {
	expectAnswers(t, "*.ck\n===p\n!www.ck", "www.ck ck www.ck p", "a.www.ck ck www.ck p", "wwww.ck wwww.ck / i")
	expectAnswers(t, "!b.a\n===p\nb.a", "b.a a b.a i", "c.b.a a b.a i")
	expectAnswers(t, "!b.a\n===p\nd.c.b.a\n*.d.c.b.a\n*.b.a\nc.b.a", "b.a a b.a i", "c.b.a a b.a i", "d.c.b.a a b.a i", "e.d.c.b.a a b.a i", "f.e.d.c.b.a a b.a i")
	expectAnswers(t, "d.c.b.a\n*.a\n===p\n!b.a", "d.c.b.a a b.a p", "d.c.a c.a d.c.a i")
	expectAnswers(t, "!b.a\n!d.c.b.a\n===p\n*.c.b.a\nc.b.a", "c.b.a a b.a i", "x.c.b.a a b.a i", "d.c.b.a c.b.a d.c.b.a i")
}

func TestLettersOfHosts(t *testing.T) {
	for _, list := range []string{"\u00fc.de\n===p\n*.b\u00fccher.de\n!www.b\u00fccher.de", "XN--tda.DE\n===p\n*.xn--bcher-kva.de\n!WWW.xn--bcher-kva.de"} {
		expectAnswers(t, list,
			"\u00fc.de xn--tda.de / i", "A.\u00fc.De xn--tda.de a.xn--tda.de i", "xn--tda.de xn--tda.de / i", "b.a.XN--TDA.de xn--tda.de a.xn--tda.de i",
			"u.de de u.de -", "\u00dc.de de xn--wca.de -", "\u00fc.b\u00fccher.de xn--tda.xn--bcher-kva.de / p", "\u65e5\u672c.\u00fc.B\u00fcCHER.DE xn--tda.xn--bcher-kva.de xn--wgv71a.xn--tda.xn--bcher-kva.de p",
			"x.www.b\u00fccher.de xn--bcher-kva.de www.xn--bcher-kva.de p", "\u65e5.\u672c xn--8pv xn--wgv.xn--8pv -")
	}
	expectAnswers(t, "com", "COM com / i", "WWW.Example.COM com example.com i", "ExAmPlE.OrG org example.org -")
}

func TestLongHosts(t *testing.T) {
	full := strings.Repeat("a", 20)
	longest := strings.Repeat("b", 18) + "." + full + "." + full
	expectAnswers(t, longest, longest+" "+longest+" / i")
	expectAnswers(t, "*."+full+"."+full, longest+" "+longest+" / i")
	expectAnswers(t, "!"+longest, longest+" "+full+"."+full+" "+longest+" i")
	expectAnswers(t, "", longest+" "+full+" "+full+"."+full+" -")
}

// TestWrongHosts: with an image that is one, and with one that is none (see expectNoImage).
func TestWrongHosts(t *testing.T) {
	for _, list := range []string{"", "com", exampleList} {
		image := compiled(t, list)
		for host, want := range map[string]suffix.Errno{
			strings.Repeat("a", 61): suffix.ErrLong, strings.Repeat("a.", 40): suffix.ErrLong, strings.Repeat("\xff", 61): suffix.ErrLong,
			"": suffix.ErrHost, ".": suffix.ErrHost, ".com": suffix.ErrHost, "com.": suffix.ErrHost, "a..com": suffix.ErrHost, "-.com": suffix.ErrHost, "*.ck": suffix.ErrHost, "!www.ck": suffix.ErrHost,
			"1.2.3.4": suffix.ErrHost, "a.b.c.d.e.f.com": suffix.ErrHost, "xn--b.com": suffix.ErrHost, "\xff.com": suffix.ErrHost, "com\n": suffix.ErrHost, strings.Repeat("a", 60): suffix.ErrHost,
		} {
			if public, domain, section, err := suffix.Lookup(image, host); public != "" || domain != "" || section != "" || err != want {
				t.Errorf("P6: Lookup(.., %q) = %q, %q, %q, %d, want %d", host, public, domain, section, err, want)
			}
		}
	}
}

// byWords finds the answer otherwise: label by label, each rule held against all others.
func byWords(list, host string) [3]string {
	labels := strings.Split(host, ".")
	public, section, rank := 1, "-", 0
	in := "i"
	for line := range strings.Lines(list) {
		line = strings.TrimSuffix(line, "\n")
		if line == "===p" {
			in = "p"
			continue
		}
		words := strings.Split(strings.TrimPrefix(line, "!"), ".")
		if len(words) > len(labels) {
			continue
		}
		fits := true
		for i, word := range words {
			fits = fits && (word == "*" || word == labels[len(labels)-len(words)+i])
		}
		count, order := len(words), 2*len(words)
		if words[0] != "*" {
			order++
		}
		if line[0] == '!' {
			count, order = count-1, order+100
		}
		if fits && order > rank {
			public, section, rank = count, in, order
		}
	}
	answer := [3]string{strings.Join(labels[len(labels)-public:], "."), "", section}
	if public < len(labels) {
		answer[1] = strings.Join(labels[len(labels)-public-1:], ".")
	}
	return answer
}

// TestAllChoicesOfRules: hosts of up to four labels, by all choices of ten rules.
func TestAllChoicesOfRules(t *testing.T) {
	var hosts []string
	for _, a := range []string{"a", "b"} {
		hosts = append(hosts, a)
		for _, b := range []string{"a", "b"} {
			hosts = append(hosts, b+"."+a)
			for _, c := range []string{"a", "b"} {
				hosts = append(hosts, c+"."+b+"."+a, "a."+c+"."+b+"."+a, "b."+c+"."+b+"."+a)
			}
		}
	}
	pool := []string{"a", "*.a", "b.a", "!b.a", "*.b.a", "a.b.a", "!a.b.a", "b.a.b.a", "*.b", "!b.b"}
	for choice := range 1 << len(pool) {
		var first, second string
		for i, line := range pool {
			switch {
			case choice>>i&1 == 0:
			case (choice*7+i*5)%3 == 0:
				second += line + "\n"
			default:
				first += line + "\n"
			}
		}
		list := first + "===p\n" + second
		image := compiled(t, list)
		for _, host := range hosts {
			expectAnswer(t, image, host, byWords(list, host))
		}
	}
}

// TestAnswersAreNew: they share no memory with what was handed in.
func TestAnswersAreNew(t *testing.T) {
	image := compiled(t, "com")
	for _, host := range []string{"com", "a.com", "zz"} {
		public, domain, _, _ := suffix.Lookup(image, host)
		for _, answer := range []string{public, domain} {
			start := strings.Index(host, answer)
			if answer != "" && unsafe.StringData(answer) == unsafe.StringData(host[start:]) {
				t.Errorf("an answer for %q shares its memory", host)
			}
		}
	}
}
