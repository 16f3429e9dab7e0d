package suffix

import "testing"

func expectLines(t *testing.T, text string, want ...string) {
	t.Helper()
	expectPieces(t, text, list(text).lines, want...)
}

func TestLinesOfAList(t *testing.T) {
	expectLines(t, "")
	expectLines(t, "\n", "")
	expectLines(t, "a", "a")
	expectLines(t, "a\n", "a")
	expectLines(t, "a\nb", "a", "b")
	expectLines(t, "\na\n\n\nb\n\n", "", "a", "", "", "b", "")
	expectLines(t, "a\r\n\x00\n\xff", "a\r", "\x00", "\xff")
}

// TestReaderStops: behind a line that is refused none is read.
func TestReaderStops(t *testing.T) {
	var r reader
	r.add("a\n-\nb", "c")
	if len(r.rules) != 1 || r.read != 1 || r.err != ErrList {
		t.Errorf("read: %+v", r)
	}
}
