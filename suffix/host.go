package suffix

import (
	"slices"
	"strings"
	"unicode/utf8"
)

const (
	maxHost   = 60 // bytes of a host as it is handed in, and of its plain form
	maxLabel  = 20 // bytes of a label in plain form
	maxLabels = 6
)

// host is a text that may be a host.
type host string

// labels goes through what stands between the dots, from the right.
func (h host) labels(yield func(string) bool) {
	rest := string(h)
	for {
		dot := strings.LastIndexByte(rest, '.')
		if !yield(rest[dot+1:]) || dot < 0 {
			return
		}
		rest = rest[:dot]
	}
}

// turned tells the labels in the other order: those of a host as its keys have them, and back.
func (h host) turned() string {
	return strings.Join(slices.Collect(h.labels), ".")
}

// last tells so many of the last labels, one at least; nothing, if there are fewer.
func (h host) last(count int) string {
	start := len(h) + 1
	for piece := range h.labels {
		start -= len(piece) + 1
		count--
		if count == 0 {
			return string(h[start:])
		}
	}
	return ""
}

// readHost tells the labels of a host, from the left.
func readHost(text string) ([]label, Errno) {
	if len(text) > maxHost {
		return nil, ErrLong
	}
	if !utf8.ValidString(text) {
		return nil, ErrHost
	}
	var labels []label
	for piece := range host(text).labels {
		l := newLabel(piece)
		if len(labels) == maxLabels || !l.isRight() {
			return nil, ErrHost
		}
		labels = append(labels, l)
	}
	if labels[0].isOfDigits() {
		return nil, ErrHost
	}
	slices.Reverse(labels)
	if len(joined(labels, label.plainForm)) > maxHost {
		return nil, ErrHost
	}
	return labels, OK
}

// joined tells labels in one of their forms, with dots between them.
func joined(labels []label, form func(label) string) string {
	var out strings.Builder
	for i, l := range labels {
		if i > 0 {
			out.WriteByte('.')
		}
		out.WriteString(form(l))
	}
	return out.String()
}

// hostIn tells a host in one of its labels' forms.
func hostIn(text string, form func(label) string) (string, Errno) {
	labels, err := readHost(text)
	if err != OK {
		return "", err
	}
	return joined(labels, form), OK
}
