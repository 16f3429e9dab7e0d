package suffix_test

import (
	"strings"
	"testing"

	"suffix/suffix"
)

// expectDomains asks which values may be the domain of a host, and which not.
func expectDomains(t *testing.T, list, host string, right, wrong []string) {
	t.Helper()
	w := newWorld(t, list)
	w.tuple(0, "http", host, 80)
	w.domain(suffix.OK, 0, right...)
	w.domain(suffix.ErrDomain, 0, wrong...)
}

func TestDomainsByPlainRules(t *testing.T) {
	expectDomains(t, exampleList, "a.b.co.uk", []string{"a.b.co.uk", "b.co.uk"}, []string{"co.uk", "uk"})
	expectDomains(t, exampleList, "d.c.b.a.com", []string{"d.c.b.a.com", "c.b.a.com", "b.a.com", "a.com"}, []string{"com"})
	expectDomains(t, exampleList, "c.a.blogspot.com", []string{"c.a.blogspot.com", "a.blogspot.com"}, []string{"blogspot.com", "com"})
	// That a value is public further down does not tell.
	expectDomains(t, "c.b.a", "x.c.b.a", []string{"x.c.b.a", "b.a"}, []string{"c.b.a", "a"})
	expectDomains(t, "a\nc.b.a", "x.c.b.a", []string{"x.c.b.a", "b.a"}, []string{"c.b.a", "a"})
}

func TestDomainsByWildRules(t *testing.T) {
	expectDomains(t, exampleList, "a.b.c.ck", []string{"a.b.c.ck", "b.c.ck"}, []string{"c.ck", "ck"})
	expectDomains(t, "*.b.a", "y.x.b.a", []string{"y.x.b.a", "b.a"}, []string{"x.b.a", "a"})
	expectDomains(t, "*.a", "b.a", []string{"b.a"}, []string{"a"})
}

func TestDomainsByExceptions(t *testing.T) {
	expectDomains(t, exampleList, "a.www.ck", []string{"a.www.ck", "www.ck"}, []string{"ck", "w.ck", "ww.ck"})
	expectDomains(t, exampleList, "www.ck", []string{"www.ck"}, []string{"ck"})
	// The suffix is that of the value, not that of the origin's host: for this b.a is public, but b.a itself has a.
	expectDomains(t, "!c.b.a", "x.c.b.a", []string{"x.c.b.a", "c.b.a", "b.a"}, []string{"a"})
	expectDomains(t, "!b.a\nb.a\nc.b.a", "x.c.b.a", []string{"x.c.b.a", "c.b.a", "b.a"}, []string{"a"})
}

func TestDomainsWithoutRules(t *testing.T) {
	for _, list := range []string{"", "com", exampleList} {
		expectDomains(t, list, "c.b.a.zz", []string{"c.b.a.zz", "b.a.zz", "a.zz"}, []string{"zz"})
		expectDomains(t, list, "a.zz", []string{"a.zz"}, []string{"zz"})
		expectDomains(t, list, "zz", []string{"zz"}, []string{"z", "a.zz", "com"})
	}
}

// TestOwnHost: it may be set, also where it is its own public suffix.
func TestOwnHost(t *testing.T) {
	for _, host := range []string{"com", "co.uk", "uk", "blogspot.com", "b.ck", "ck", "www.ck", "a.com", "zz", "b.zz"} {
		expectDomains(t, exampleList, host, []string{host, strings.ToUpper(host)}, []string{"x." + host, "x" + host, host + "x"})
	}
}

// TestEndsOfTexts: what ends the host's text, but not behind a dot, and what stands elsewhere in it.
func TestEndsOfTexts(t *testing.T) {
	expectDomains(t, exampleList, "aa.bb.com", []string{"aa.bb.com", "bb.com"},
		[]string{"a.bb.com", "b.com", "m", "om", "aa", "aa.bb", "bb", "aa.com", "xaa.bb.com", "x.aa.bb.com", "x.bb.com", "xbb.com", "bb.comx", "bb.org", "org", "aa.bb.com.com", "bb-com"})
	expectDomains(t, "", "com.com.com", []string{"com.com.com", "com.com"}, []string{"com", "com.com.com.com", "m.com", "om.com.com"})
}

func TestLettersOfDomains(t *testing.T) {
	for _, host := range []string{"a.b\u00fccher.\u00fc.de", "A.XN--Bcher-KVA.xn--TDA.De"} {
		expectDomains(t, "\u00fc.de", host,
			[]string{"a.b\u00fccher.\u00fc.de", "B\u00fcCHER.\u00fc.DE", "xn--bcher-kva.xn--tda.de", "XN--BCHER-KVA.\u00fc.de"},
			[]string{"\u00fc.de", "xn--tda.de", "de", "DE", "b\u00dccher.\u00fc.de", "cher.\u00fc.de", "\u00fccher.\u00fc.de", "kva.xn--tda.de"})
	}
}

func TestWrongDomains(t *testing.T) {
	w := newWorld(t, exampleList)
	w.tuple(0, "http", "a.b.com", 80)
	w.domain(suffix.ErrHost, 0, "", ".", ".com", ".b.com", "b.com.", "b..com", "-", "-b.com", "b_.com", "1", "1.2.3.4", "xn--b.com", "*.com", "!b.com", "\xff.com", "b.com\n", "http://b.com", "a.b.c.d.e.f.com", strings.Repeat("a", 60))
	w.domain(suffix.ErrLong, 0, strings.Repeat("a", 61), strings.Repeat("-", 61), strings.Repeat("b.com.", 11), strings.Repeat("\xff", 61), strings.Repeat("a", 1<<20))
}

// TestRefusedDomains: they change nothing, be one set or none.
func TestRefusedDomains(t *testing.T) {
	w := newWorld(t, exampleList)
	w.tuple(0, "http", "a.b.com", 80)
	w.tuple(1, "http", "a.b.com", 80)
	w.tuple(2, "http", "x.b.com", 80)
	refuse := func(origin int) {
		t.Helper()
		w.domain(suffix.ErrDomain, origin, "com", "y.b.com", "zz", "x.a.b.com")
		w.domain(suffix.ErrHost, origin, "", "-", "b.com.")
		w.domain(suffix.ErrLong, origin, strings.Repeat("b", 61))
	}
	refuse(0)
	w.same(0, 1, "sdo")
	w.domain(suffix.OK, 0, "b.com")
	w.domain(suffix.OK, 2, "b.com")
	w.same(0, 1, "so")
	w.same(0, 2, "do")
	refuse(0)
	refuse(2)
	w.same(0, 1, "so")
	w.same(0, 2, "do")
}

func TestSettingDomainsAgain(t *testing.T) {
	w := newWorld(t, exampleList)
	w.tuple(0, "http", "a.b.c.com", 80)
	w.tuple(1, "http", "a.b.c.com", 80)
	w.domain(suffix.OK, 1, "b.c.com")
	w.domain(suffix.OK, 0, "c.com")
	w.same(0, 1, "so")
	w.domain(suffix.OK, 0, "b.c.com")
	w.same(0, 1, "sdo")
	w.domain(suffix.OK, 0, "b.c.com")
	w.same(0, 1, "sdo")
	w.domain(suffix.OK, 0, "a.b.c.com")
	w.same(0, 1, "so")
	// Wider again: it is held against the host, not against what was set.
	w.domain(suffix.OK, 0, "c.com")
	w.domain(suffix.OK, 1, "C.COM")
	w.same(0, 1, "sdo")
	w.site(0, "http://c.com")
}

// TestDomainsOfOthers: setting one leaves the other origins alone.
func TestDomainsOfOthers(t *testing.T) {
	w := newWorld(t, exampleList)
	for i := range 4 {
		w.tuple(i, "http", "a.com", 80)
	}
	w.domain(suffix.OK, 2, "a.com")
	w.same(0, 1, "sdo")
	w.same(0, 3, "sdo")
	w.same(1, 2, "so")
	w.same(2, 3, "so")
	w.domain(suffix.OK, 0, "a.com")
	w.same(0, 2, "sdo")
	w.same(1, 3, "sdo")
	w.same(0, 1, "so")
	// Nor does a new origin have one.
	w.tuple(4, "http", "a.com", 80)
	w.same(4, 0, "so")
	w.same(4, 1, "sdo")
}
