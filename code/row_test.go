package code

import "testing"

// next goes one way on in the row, as the document lays it: by code points, and for each by places.
func next(w way, standing int) way {
	if w.place < standing {
		return way{point: w.point, place: w.place + 1}
	}
	return way{point: w.point + 1, place: 0}
}

// TestRow counts the ways passed over one by one.
func TestRow(t *testing.T) {
	for standing := range 4 {
		for place := -1; place <= standing; place++ {
			r := newRow(standing)
			r.last.place = place
			w := next(r.last, standing)
			for number := range 50 {
				if got := r.passed(w); got != number {
					t.Errorf("%d stand, %v taken: passed(%v) = %d, want %d", standing, r.last, w, got, number)
				}
				if got := r.behind(number); got != w {
					t.Errorf("%d stand, %v taken: behind(%d) = %v, want %v", standing, r.last, number, got, w)
				}
				w = next(w, standing)
			}
		}
	}
}

// TestFirstBias: the first number is divided by 700, and no less and no more.
func TestFirstBias(t *testing.T) {
	for number, want := range map[int]int{699: 0, 700: 1} {
		r := newRow(0)
		r.take(way{point: firstForeign + number, place: 0})
		if r.bias != want {
			t.Errorf("behind the first number %d the bias is %d, want %d", number, r.bias, want)
		}
	}
}

func TestTake(t *testing.T) {
	r := newRow(5)
	w := way{point: 252, place: 1}
	r.take(w)
	// The number is 745: divided by 700 it is 1, and nothing is added.
	if r.last != w || r.standing != 6 || r.bias != 0 || r.damp != 2 {
		t.Errorf("take: %+v", r)
	}
	r.take(way{point: 20013, place: 0})
	// The number is 138325: halved 69162, with its seventh 79042, divided by 35 twice 64.
	if r.standing != 7 || r.bias != 72+22 || r.damp != 2 {
		t.Errorf("take again: %+v", r)
	}
}
