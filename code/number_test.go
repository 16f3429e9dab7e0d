package code

import "testing"

func TestNumbers(t *testing.T) {
	for _, c := range []struct {
		number, bias int
		text         string
	}{
		{0, 72, "a"}, {1, 72, "ba"}, {35, 72, "9a"}, {36, 72, "bba"}, {124, 72, "tda"}, {745, 72, "kva"},
		{0, 0, "a"}, {25, 0, "z"}, {26, 0, "0a"}, {35, 0, "9a"}, {36, 0, "0b"},
	} {
		if got := string(appendNumber([]byte("x"), c.number, c.bias)); got != "x"+c.text {
			t.Errorf("%d with bias %d is written %q, want %q", c.number, c.bias, got[1:], c.text)
		}
		if number, size := readNumber(c.text+"9b", c.bias, c.number); number != c.number || size != len(c.text) {
			t.Errorf("%q with bias %d is read %d of %d bytes, want %d", c.text, c.bias, number, size, c.number)
		}
		if number, size := readNumber(c.text, c.bias, c.number-1); c.number > 0 && (number != 0 || size != 0) {
			t.Errorf("%q with bias %d is read %d, above the most", c.text, c.bias, number)
		}
	}
}

func TestNumbersAreReadAsWritten(t *testing.T) {
	for _, bias := range []int{0, 1, 10, 35, 36, 50, 72, 100, 180} {
		for number := range 3000 {
			text := string(appendNumber(nil, number, bias))
			if got, size := readNumber(text, bias, 3000); got != number || size != len(text) {
				t.Fatalf("%d with bias %d is written %q and read %d", number, bias, text, got)
			}
		}
	}
}

func TestThreshold(t *testing.T) {
	for _, c := range []struct{ k, bias, want int }{
		{0, 72, 1}, {1, 72, 1}, {2, 72, 26}, {0, 0, 26}, {0, 9, 26}, {0, 10, 26}, {0, 11, 25}, {0, 34, 2}, {0, 35, 1}, {0, 36, 1},
	} {
		if got := threshold(c.k, c.bias); got != c.want {
			t.Errorf("threshold(%d, %d) = %d, want %d", c.k, c.bias, got, c.want)
		}
	}
}

func TestBiasBehind(t *testing.T) {
	for _, c := range []struct{ number, damp, standing, want int }{
		{0, 700, 1, 0}, {699, 700, 1, 0}, {700, 700, 1, 1}, {700, 700, 2, 0},
		{1, 2, 1, 0}, {2, 2, 1, 1},
		{910, 2, 1000, 33},        // 455: not above it
		{912, 2, 1000, 36 + 9},    // 456: divided once
		{2000000, 2, 9, 108 + 14}, // 1111111: divided three times
	} {
		if got := biasBehind(c.number, c.damp, c.standing); got != c.want {
			t.Errorf("biasBehind(%d, %d, %d) = %d, want %d", c.number, c.damp, c.standing, got, c.want)
		}
	}
}
