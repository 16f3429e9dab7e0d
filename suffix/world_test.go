package suffix_test

import (
	"math"
	"strings"
	"testing"
	"unsafe"

	"suffix/suffix"
)

// tried is a world with what is expected of it.
type tried struct {
	*testing.T
	world *suffix.World
}

func newWorld(t *testing.T, lists ...string) tried {
	t.Helper()
	world, err := suffix.New(compiled(t, lists...))
	if world == nil || err != suffix.OK {
		t.Fatalf("P7: New of the image of %.90q = %v, %d", lists, world, err)
	}
	return tried{t, world}
}

func (w tried) tuple(want int, scheme, host string, port int) {
	w.Helper()
	if got, err := w.world.Tuple(scheme, host, port); got != want || err != suffix.OK {
		w.Errorf("P7: Tuple(%q, %q, %d) = %d, %d, want %d", scheme, host, port, got, err, want)
	}
}

func (w tried) noTuple(want suffix.Errno, scheme, host string, port int) {
	w.Helper()
	if got, err := w.world.Tuple(scheme, host, port); got != 0 || err != want {
		w.Errorf("P7: Tuple(%.90q, %.90q, %d) = %d, %d, want 0, %d", scheme, host, port, got, err, want)
	}
}

func (w tried) opaque(want int) {
	w.Helper()
	if got, err := w.world.Opaque(); got != want || err != suffix.OK {
		w.Errorf("P7: Opaque() = %d, %d, want %d", got, err, want)
	}
}

func (w tried) noOpaque() {
	w.Helper()
	if got, err := w.world.Opaque(); got != 0 || err != suffix.ErrMany {
		w.Errorf("P7: Opaque() = %d, %d, want 0, %d", got, err, suffix.ErrMany)
	}
}

func (w tried) domain(want suffix.Errno, origin int, values ...string) {
	w.Helper()
	for _, value := range values {
		if err := w.world.Domain(origin, value); err != want {
			w.Errorf("P8: Domain(%d, %.90q) = %d, want %d", origin, value, err, want)
		}
	}
}

func (w tried) site(origin int, want string) {
	w.Helper()
	if got, err := w.world.Site(origin); got != want || err != suffix.OK {
		w.Errorf("P9: Site(%d) = %q, %d, want %q", origin, got, err, want)
	}
}

// same asks in both orders; each relation that holds is a letter of want: s (the same), d (by domain), o (of one site).
func (w tried) same(a, b int, want string) {
	w.Helper()
	for range 2 {
		same, domain, site, err := w.world.Same(a, b)
		if same != strings.Contains(want, "s") || domain != strings.Contains(want, "d") || site != strings.Contains(want, "o") || err != suffix.OK {
			w.Errorf("P9: Same(%d, %d) = %t, %t, %t, %d, want %q", a, b, same, domain, site, err, want)
		}
		a, b = b, a
	}
}

// noOrigin asks all that takes an origin's number, with values that are wrong too: the number is what is wrong first.
func (w tried) noOrigin(numbers ...int) {
	w.Helper()
	for _, number := range numbers {
		w.domain(suffix.ErrArg, number, "a.com", "com", "-", "", strings.Repeat("a", 61))
		if got, err := w.world.Site(number); got != "" || err != suffix.ErrArg {
			w.Errorf("P9: Site(%d) = %q, %d", number, got, err)
		}
		for _, pair := range [][2]int{{number, 0}, {0, number}, {number, number}} {
			if same, domain, site, err := w.world.Same(pair[0], pair[1]); same || domain || site || err != suffix.ErrArg {
				w.Errorf("P9: Same(%d, %d) = %t, %t, %t, %d", pair[0], pair[1], same, domain, site, err)
			}
		}
	}
}

func TestWorldExample(t *testing.T) {
	w := newWorld(t, exampleList)
	w.tuple(0, "https", "a.b.com", 443)
	w.tuple(1, "https", "c.b.com", 443)
	w.same(0, 1, "o")
	w.domain(suffix.OK, 0, "b.com")
	w.domain(suffix.OK, 1, "B.com")
	w.same(0, 1, "do")
	w.domain(suffix.ErrDomain, 0, "com")
	w.domain(suffix.OK, 0, "a.b.com")
	w.same(0, 0, "sdo")
	w.site(0, "https://b.com")
}

// TestNew: what is no image is asked in expectNoImage.
func TestNew(t *testing.T) {
	for _, list := range []string{"", "com", "===p\n*.ck\n!www.ck", exampleList, manyRules(30)} {
		w := newWorld(t, list)
		w.noOrigin(0, 1, -1)
		w.tuple(0, "http", "a.b.zz", 0)
		w.site(0, "http://b.zz")
	}
}

func TestRefusedImages(t *testing.T) {
	image := compiled(t, exampleList)
	for _, text := range []string{"", "x", "\x00\x01\x00", "\x00\x00\x00", image[1:], image[:len(image)-1], image + "\x00", image + image, exampleList} {
		expectNoImage(t, suffix.ErrImage, text)
	}
	expectNoImage(t, suffix.ErrImage, strings.Repeat("\x00", 8000))
	expectNoImage(t, suffix.ErrLong, strings.Repeat("\x00", 8001))
}

// TestWorldsByTurns: none knows of another's origins, domains or rules.
func TestWorldsByTurns(t *testing.T) {
	one, twin, other := newWorld(t, "com"), newWorld(t, "com"), newWorld(t, "com\n===p\nb.com")
	one.tuple(0, "http", "a.b.com", 1)
	twin.noOrigin(0)
	other.noOrigin(0)
	twin.opaque(0)
	other.tuple(0, "https", "b.com", 2)
	one.noOrigin(1)
	other.tuple(1, "http", "a.b.com", 1)
	one.opaque(1)
	twin.tuple(1, "http", "a.b.com", 1)
	twin.tuple(2, "http", "a.b.com", 1)
	one.tuple(2, "http", "a.b.com", 1)

	one.site(0, "http://b.com")
	other.site(1, "http://a.b.com")
	other.site(0, "https://b.com")
	twin.site(0, "opaque")
	one.site(1, "opaque")

	one.domain(suffix.OK, 0, "b.com")
	other.domain(suffix.ErrDomain, 1, "b.com")
	twin.domain(suffix.ErrOpaque, 0, "b.com")
	twin.same(1, 2, "sdo")
	one.same(0, 2, "so")
	twin.domain(suffix.OK, 1, "b.com")
	twin.domain(suffix.OK, 2, "a.b.com")
	twin.same(1, 2, "so")
	one.domain(suffix.OK, 2, "b.com")
	one.same(0, 2, "sdo")
	one.noOrigin(3)
	twin.noOrigin(3)
	other.noOrigin(2, 3)
}

// TestFullWorlds: that one is full does not fill another.
func TestFullWorlds(t *testing.T) {
	full, other := newWorld(t, "com"), newWorld(t, "com")
	for i := range 20 {
		full.opaque(i)
	}
	full.noOpaque()
	for i := range 20 {
		other.tuple(i, "http", "a.com", 80)
	}
	other.noTuple(suffix.ErrMany, "http", "a.com", 80)
}

func TestSchemes(t *testing.T) {
	w := newWorld(t, "com")
	w.tuple(0, "http", "a.com", 80)
	w.tuple(1, "https", "a.com", 80)
	for _, scheme := range []string{"", "HTTP", "Https", "htt", "httpss", "http:", "https://", " http", "http ", "http\x00", "ftp", "ws", "file", "\xff", strings.Repeat("http", 1000)} {
		w.noTuple(suffix.ErrArg, scheme, "a.com", 80)
	}
	w.tuple(2, "https", "a.com", 443)
	w.site(0, "http://a.com")
	w.site(1, "https://a.com")
	w.noOrigin(3)
}

func TestPorts(t *testing.T) {
	w := newWorld(t, "com")
	for i, port := range []int{0, 1, 80, 443, 32768, 65534, 65535} {
		w.tuple(i, "http", "a.com", port)
	}
	for _, port := range []int{-1, -80, 65536, 65616, 1 << 16, 1 << 32, 1<<32 + 80, -1 << 32, math.MaxInt, math.MinInt} {
		w.noTuple(suffix.ErrArg, "http", "a.com", port)
		w.noTuple(suffix.ErrArg, "https", "a.com", port)
	}
	for a := range 7 {
		for b := range a {
			w.same(a, b, "o")
		}
	}
	w.noOrigin(7)
}

func TestHostsOfOrigins(t *testing.T) {
	w := newWorld(t, "com\n\u00fc.de")
	for i, host := range []string{"WWW.Example.COM", "www.example.com", "b\u00fccher.\u00fc.de", "XN--BCHER-kva.xn--tda.DE", "a.\u00fc.de", "a.\u00dc.de", "a.b.c.d.e.com", strings.Repeat("b", 18) + "." + strings.Repeat("a", 20) + "." + strings.Repeat("c", 20)} {
		w.tuple(i, "http", host, 80)
	}
	w.same(0, 1, "sdo")
	w.same(2, 3, "sdo")
	w.same(4, 5, "")
	w.site(0, "http://example.com")
	w.site(2, "http://xn--bcher-kva.xn--tda.de")
	w.site(3, "http://xn--bcher-kva.xn--tda.de")
	w.site(4, "http://a.xn--tda.de")
	w.site(5, "http://xn--wca.de")
	w.site(6, "http://e.com")
	w.site(7, "http://"+strings.Repeat("a", 20)+"."+strings.Repeat("c", 20))
}

func TestWrongHostsOfOrigins(t *testing.T) {
	w := newWorld(t, "com")
	for _, host := range []string{"", ".", "a..com", ".com", "com.", "-", "-a.com", "a-.com", "a_b.com", "1.2.3.4", "a.1", "xn--b.com", "*.com", "!a.com", "a.com:80", "http://a.com", "a.b.c.d.e.f.com", "\xff.com", "a.com\n", strings.Repeat("a", 60), strings.Repeat("a", 21) + ".com"} {
		w.noTuple(suffix.ErrHost, "http", host, 80)
	}
	for _, host := range []string{strings.Repeat("a", 61), strings.Repeat("-", 61), strings.Repeat("a.", 31), strings.Repeat("\xff", 61), strings.Repeat("a", 1<<20)} {
		w.noTuple(suffix.ErrLong, "https", host, 65535)
	}
	w.noOrigin(0)
	w.tuple(0, "http", "a.com", 80)
	w.noOrigin(1)
}

// TestWhichErrorOfTupleComesFirst: scheme and port, the host, then how many there are.
func TestWhichErrorOfTupleComesFirst(t *testing.T) {
	w := newWorld(t, "com")
	long := strings.Repeat("-", 61)
	for i := range 21 {
		for _, host := range []string{"a.com", "-", "", long} {
			w.noTuple(suffix.ErrArg, "ftp", host, 80)
			w.noTuple(suffix.ErrArg, "http", host, -1)
			w.noTuple(suffix.ErrArg, "https", host, 65536)
			w.noTuple(suffix.ErrArg, "", host, -1)
		}
		w.noTuple(suffix.ErrLong, "http", long, 80)
		w.noTuple(suffix.ErrHost, "http", "-", 80)
		w.noOrigin(i)
		if i < 20 {
			w.tuple(i, "http", "a.com", 80)
		}
	}
	w.noTuple(suffix.ErrMany, "http", "a.com", 80)
}

// TestNumberOfOrigins: of tuples, of opaque ones, and of both by turns.
func TestNumberOfOrigins(t *testing.T) {
	for each := range 4 {
		w := newWorld(t, "com")
		for i := range 20 {
			if each == 0 || each > 1 && i%each == 0 {
				w.tuple(i, "http", "a.com", i)
			} else {
				w.opaque(i)
			}
		}
		for range 3 {
			w.noTuple(suffix.ErrMany, "http", "a.com", 19)
			w.noTuple(suffix.ErrMany, "https", "b.com", 80)
			w.noOpaque()
		}
		w.noOrigin(20, 21)
		for i := range 20 {
			w.same(i, i, "sdo")
		}
	}
}

func TestNoSuchOrigin(t *testing.T) {
	w := newWorld(t, "com")
	numbers := []int{-1, -2, -20, 20, 21, 1 << 16, 1 << 31, 1 << 32, 1<<32 + 1, 1 << 62, -1 << 31, -1 << 32, -1 << 62, math.MaxInt, math.MaxInt - 1, math.MinInt, math.MinInt + 1}
	for i := range 20 {
		w.noOrigin(numbers...)
		w.noOrigin(i)
		if i%3 == 0 {
			w.opaque(i)
		} else {
			w.tuple(i, "http", "a.com", 80)
		}
	}
	w.noOrigin(numbers...)
}

// TestOpaqueOrigins: like no other, of whichever sort.
func TestOpaqueOrigins(t *testing.T) {
	w := newWorld(t, exampleList)
	w.opaque(0)
	w.opaque(1)
	w.tuple(2, "http", "opaque", 0)
	w.tuple(3, "https", "a.com", 0)
	w.opaque(4)
	w.domain(suffix.OK, 3, "a.com")
	for _, opaque := range []int{0, 1, 4} {
		w.site(opaque, "opaque")
		for other := range 5 {
			if other == opaque {
				w.same(opaque, opaque, "sdo")
			} else {
				w.same(opaque, other, "")
			}
		}
		w.domain(suffix.ErrOpaque, opaque, "opaque", "a.com", "com", "b.zz", "-", "", strings.Repeat("a", 61))
	}
	w.site(2, "http://opaque")
}

// borrowed tells a text whose bytes may change later.
func borrowed(text string) (string, []byte) {
	bytes := []byte(text)
	return unsafe.String(unsafe.SliceData(bytes), len(bytes)), bytes
}

// TestNothingIsKept: a world keeps none of the texts that are handed in.
func TestNothingIsKept(t *testing.T) {
	image, a := borrowed(compiled(t, "com"))
	scheme, b := borrowed("http")
	host, c := borrowed("b.a.com")
	value, d := borrowed("a.com")
	world, err := suffix.New(image)
	if err != suffix.OK {
		t.Fatalf("P7: New = %d", err)
	}
	w := tried{t, world}
	w.tuple(0, scheme, host, 80)
	w.domain(suffix.OK, 0, value)
	for _, bytes := range [][]byte{a, b, c, d} {
		for i := range bytes {
			bytes[i] = 'x'
		}
	}
	w.site(0, "http://a.com")
	w.tuple(1, "http", "b.a.com", 80)
	w.domain(suffix.OK, 1, "a.com")
	w.same(0, 1, "sdo")
	w.domain(suffix.ErrDomain, 0, "com")
}
