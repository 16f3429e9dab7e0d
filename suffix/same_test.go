package suffix_test

import (
	"testing"

	"suffix/suffix"
)

func TestSites(t *testing.T) {
	w := newWorld(t, exampleList)
	for i, pair := range [][2]string{
		{"a.b.com", "b.com"}, {"b.com", "b.com"}, {"com", "com"}, {"x.y.co.uk", "y.co.uk"}, {"co.uk", "co.uk"}, {"uk", "uk"}, {"x.uk", "x.uk"},
		{"a.b.c.ck", "b.c.ck"}, {"c.ck", "c.ck"}, {"ck", "ck"}, {"a.www.ck", "www.ck"}, {"www.ck", "www.ck"}, {"c.a.blogspot.com", "a.blogspot.com"}, {"blogspot.com", "blogspot.com"},
		{"a.b.zz", "b.zz"}, {"zz", "zz"}, {"A.\u00fc.ZZ", "xn--tda.zz"},
	} {
		scheme := []string{"http", "https"}[i%2]
		w.tuple(i, scheme, pair[0], i)
		w.site(i, scheme+"://"+pair[1])
	}
	w.opaque(17)
	w.site(17, "opaque")
}

// TestSitesBehindDomains: a domain that was set does not tell.
func TestSitesBehindDomains(t *testing.T) {
	w := newWorld(t, exampleList)
	w.tuple(0, "http", "a.b.c.com", 80)
	w.tuple(1, "http", "co.uk", 80)
	for _, value := range []string{"c.com", "b.c.com", "a.b.c.com"} {
		w.domain(suffix.OK, 0, value)
		w.site(0, "http://c.com")
	}
	w.domain(suffix.OK, 1, "co.uk")
	w.site(1, "http://co.uk")
	// For the host b.d.e the suffix is d.e, and yet d.e may be its domain.
	other := newWorld(t, "!b.d.e")
	other.tuple(0, "https", "a.b.d.e", 80)
	other.domain(suffix.OK, 0, "d.e")
	other.site(0, "https://b.d.e")
}

func TestSameWithoutDomains(t *testing.T) {
	w := newWorld(t, exampleList)
	w.tuple(0, "http", "a.com", 80)
	w.tuple(1, "http", "A.com", 80)
	w.tuple(2, "https", "a.com", 80)
	w.tuple(3, "http", "a.com", 81)
	w.tuple(4, "http", "b.a.com", 80)
	w.tuple(5, "http", "b.com", 80)
	w.tuple(6, "http", "com", 80)
	w.tuple(7, "http", "com", 8080)
	w.tuple(8, "http", "x.blogspot.com", 80)
	w.tuple(9, "http", "y.blogspot.com", 80)
	w.tuple(10, "http", "y.x.blogspot.com", 80)
	w.tuple(11, "https", "b.a.com", 81)
	w.same(0, 1, "sdo")
	w.same(0, 2, "")
	w.same(0, 3, "o")
	w.same(0, 4, "o")
	w.same(3, 4, "o")
	w.same(0, 5, "")
	w.same(0, 6, "")
	w.same(6, 7, "o")
	w.same(8, 9, "")
	w.same(8, 10, "o")
	w.same(2, 11, "o")
	w.same(4, 11, "")
	w.same(0, 11, "")
	for i := range 12 {
		w.same(i, i, "sdo")
	}
}

func TestSameByDomain(t *testing.T) {
	w := newWorld(t, exampleList)
	w.tuple(0, "http", "a.c.com", 80)
	w.tuple(1, "http", "a.c.com", 80)
	w.tuple(2, "http", "a.c.com", 8080)
	w.tuple(3, "https", "a.c.com", 80)
	w.tuple(4, "http", "b.c.com", 80)
	w.tuple(5, "http", "c.com", 80)
	// One set alone, even to its own host.
	w.domain(suffix.OK, 0, "a.c.com")
	w.same(0, 0, "sdo")
	w.same(0, 1, "so")
	w.same(0, 2, "o")
	w.same(0, 5, "o")
	// Both set: different ones, then the same.
	w.domain(suffix.OK, 1, "c.com")
	w.same(0, 1, "so")
	w.domain(suffix.OK, 0, "c.com")
	w.same(0, 1, "sdo")
	// Neither the port nor the host tells then, but the scheme does.
	for origin, value := range []string{2: "C.com", 3: "c.com", 4: "c.com", 5: "c.com"} {
		if origin > 1 {
			w.domain(suffix.OK, origin, value)
		}
	}
	w.same(0, 2, "do")
	w.same(0, 4, "do")
	w.same(0, 5, "do")
	w.same(2, 4, "do")
	w.same(0, 3, "")
	w.same(2, 3, "")
	w.same(3, 3, "sdo")
	w.domain(suffix.OK, 4, "b.c.com")
	w.same(0, 4, "o")
	w.same(4, 5, "o")
}

// TestSameDomainOfOtherSites: by an exception a domain may be set that is above the site.
func TestSameDomainOfOtherSites(t *testing.T) {
	w := newWorld(t, "!c.b.a\n!d.b.a")
	w.tuple(0, "http", "x.c.b.a", 80)
	w.tuple(1, "http", "x.d.b.a", 80)
	w.same(0, 1, "")
	w.domain(suffix.OK, 0, "b.a")
	w.domain(suffix.OK, 1, "b.a")
	w.same(0, 1, "d")
}

// made is what a world was asked to make, and what was set there.
type made struct {
	scheme, host string
	port         int
	domain       string
}

// holds tells the relations otherwise: by the words of the document, one sort after the other.
func holds(image string, x, y made, one bool) string {
	if x.scheme == "" || y.scheme == "" {
		if one {
			return "sdo"
		}
		return ""
	}
	if x.scheme != y.scheme {
		return ""
	}
	want := ""
	same := x.host == y.host && x.port == y.port
	if same {
		want += "s"
	}
	if same && x.domain == "" && y.domain == "" || x.domain != "" && x.domain == y.domain {
		want += "d"
	}
	if ownerOf(image, x.host) == ownerOf(image, y.host) {
		want += "o"
	}
	return want
}

func ownerOf(image, host string) string {
	_, domain, _, _ := suffix.Lookup(image, host)
	if domain == "" {
		return host
	}
	return domain
}

// TestAllPairs: origins that differ in one thing or in several, in worlds of different rules.
func TestAllPairs(t *testing.T) {
	all := []made{
		{}, {"http", "b.a.zz", 80, ""}, {"http", "b.a.zz", 80, ""}, {"http", "b.a.zz", 80, "a.zz"}, {"http", "b.a.zz", 80, "b.a.zz"}, {"http", "b.a.zz", 81, ""}, {"http", "b.a.zz", 81, "a.zz"},
		{"https", "b.a.zz", 80, ""}, {"https", "b.a.zz", 80, "a.zz"}, {"http", "c.a.zz", 80, ""}, {"http", "c.a.zz", 80, "a.zz"}, {"http", "c.a.zz", 80, "c.a.zz"},
		{"http", "a.zz", 80, ""}, {"http", "a.zz", 80, "a.zz"}, {"https", "a.zz", 81, "a.zz"}, {"http", "zz", 80, ""}, {"http", "zz", 80, "zz"}, {"http", "zz", 0, "zz"}, {"http", "a.yy", 80, "a.yy"}, {},
	}
	for _, list := range []string{"", "zz", "c.a.zz", "zz\nb.a.zz", "!a.zz\n*.zz", "!b.a.zz\n*.a.zz", exampleList} {
		image := compiled(t, list)
		w := newWorld(t, list)
		for i, each := range all {
			if each.scheme == "" {
				w.opaque(i)
				continue
			}
			w.tuple(i, each.scheme, each.host, each.port)
			if each.domain != "" {
				w.domain(suffix.OK, i, each.domain)
			}
		}
		for a, x := range all {
			for b, y := range all {
				w.same(a, b, holds(image, x, y, a == b))
			}
		}
	}
}

// TestAskingChangesNothing: neither do answers with an error.
func TestAskingChangesNothing(t *testing.T) {
	w := newWorld(t, exampleList)
	w.tuple(0, "http", "a.b.com", 80)
	w.opaque(1)
	w.domain(suffix.OK, 0, "b.com")
	for range 3 {
		w.noOrigin(-1, 2)
		w.noTuple(suffix.ErrArg, "ftp", "a.b.com", 80)
		w.noTuple(suffix.ErrHost, "http", "-", 80)
		w.domain(suffix.ErrOpaque, 1, "b.com")
		w.domain(suffix.ErrDomain, 0, "com")
		w.site(0, "http://b.com")
		w.site(1, "opaque")
		w.same(0, 1, "")
		w.same(0, 0, "sdo")
		w.same(1, 1, "sdo")
	}
	w.tuple(2, "http", "x.b.com", 80)
	w.domain(suffix.OK, 2, "b.com")
	w.same(0, 2, "do")
}
