package code

import (
	"cmp"
	"unicode/utf8"
)

// way is one way to put a letter in: its code point, and its place among the letters that stand so far.
type way struct {
	point int
	place int
}

func (w way) comparePoints(other way) int {
	return cmp.Compare(w.point, other.point)
}

// row is how far the row of all ways has been gone through.
type row struct {
	last     way // the one taken last
	standing int // how many letters stand
	bias     int
	damp     int // by what the next number is divided for the bias behind it
}

func newRow(plain int) row {
	return row{last: way{point: firstForeign, place: -1}, standing: plain, bias: firstBias, damp: firstDamp}
}

// passed tells how many ways are passed over from the last one taken to w.
func (r *row) passed(w way) int {
	return (w.point-r.last.point)*(r.standing+1) + w.place - (r.last.place + 1)
}

// behind tells the way that is reached by passing over so many.
func (r *row) behind(number int) way {
	at := r.last.place + 1 + number
	return way{point: r.last.point + at/(r.standing+1), place: at % (r.standing + 1)}
}

// most tells a number that is enough to pass over all that is left of the row.
func (r *row) most() int {
	return (utf8.MaxRune + 1 - r.last.point) * (r.standing + 1)
}

// take puts a letter in.
func (r *row) take(w way) {
	number := r.passed(w)
	r.last = w
	r.standing++
	r.bias = biasBehind(number, r.damp, r.standing)
	r.damp = laterDamp
}
