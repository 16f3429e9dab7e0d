package code

const (
	base      = 36 // how many digits there are
	firstBias = 72
	firstDamp = 700
	laterDamp = 2
)

// threshold tells which digits end a number at the place k: those below it.
func threshold(k, bias int) int {
	return min(max(base*(k+1)-bias, 1), 26)
}

// appendNumber writes a number, its lowest digit first.
func appendNumber(out []byte, number, bias int) []byte {
	for k := 0; ; k++ {
		t := threshold(k, bias)
		if number < t {
			return append(out, digit(number))
		}
		out = append(out, digit(t+(number-t)%(base-t)))
		number = (number - t) / (base - t)
	}
}

// readNumber tells the number at the beginning of a text, and how many bytes it has; 0 bytes, if there is none, or it is above most.
func readNumber(text string, bias, most int) (number, size int) {
	weight := 1
	for k := range len(text) {
		value := valueOf(text[k])
		// Held against what is left, so that no product can grow beyond an int.
		if value < 0 || value > (most-number)/weight {
			return 0, 0
		}
		number += value * weight
		t := threshold(k, bias)
		if value < t {
			return number, k + 1
		}
		weight *= base - t
	}
	return 0, 0
}

func digit(value int) byte {
	if value < 26 {
		return byte('a' + value)
	}
	return byte('0' + value - 26)
}

// valueOf tells the value of a digit; -1, if it is none.
func valueOf(digit byte) int {
	switch {
	case 'a' <= digit && digit <= 'z':
		return int(digit - 'a')
	case '0' <= digit && digit <= '9':
		return int(digit-'0') + 26
	}
	return -1
}

// biasBehind tells the bias for the number that follows this one.
func biasBehind(number, damp, standing int) int {
	number /= damp
	number += number / standing
	counted := 0
	for number > 455 {
		number /= base - 1
		counted += base
	}
	return counted + base*number/(number+38)
}
