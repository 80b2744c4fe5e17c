package net

import (
	"strconv"
	"strings"

	"attest/api"
	"attest/rat"
	"attest/rtext"
)

// The words with which lines begin.
const (
	wordNet    = "net"
	wordAffine = "affine"
	wordRow    = "row"
	wordRelu   = "relu"
	wordMax    = "max"
	wordOf     = "of"
)

// remark is what begins the first word of a line that says nothing.
const remark = "#"

// Print: the network's text.
func Print(n Net) (string, api.Errno) {
	if _, e := Widths(n); e != api.OK {
		return "", e
	}
	var out strings.Builder
	line := func(words ...string) {
		out.WriteString(strings.Join(words, " ") + "\n")
	}
	line(wordNet, strconv.Itoa(n.In))
	for _, l := range n.Layers {
		switch l.Kind {
		case Affine:
			line(wordAffine)
			for i, row := range l.W {
				line(append(words(wordRow, row, rtext.Print), rtext.Print(l.B[i]))...)
			}
		case Relu:
			line(wordRelu)
		case Max:
			line(wordMax)
			for _, group := range l.Groups {
				line(words(wordOf, group, strconv.Itoa)...)
			}
		}
	}
	return out.String(), api.OK
}

// words: a word, and the texts of what follows it.
func words[T any](head string, list []T, text func(T) string) []string {
	out := []string{head}
	for _, part := range list {
		out = append(out, text(part))
	}
	return out
}

// Parse: the network of a text; else the number of the line that is wrong, and the error.
func Parse(s string) (Net, int, api.Errno) {
	if len(s) > api.MaxText {
		return Net{}, 0, api.ErrBig
	}
	r := newReader()
	for i, line := range strings.Split(s, "\n") {
		words := strings.FieldsFunc(line, isBlank)
		if len(words) == 0 || strings.HasPrefix(words[0], remark) {
			continue
		}
		if !r.take(words[0], words[1:]) {
			return Net{}, i + 1, api.ErrText
		}
	}
	if _, e := Widths(r.net); e != api.OK {
		return Net{}, 0, e
	}
	return r.net, 0, api.OK
}

func isBlank(c rune) bool {
	return c == ' ' || c == '\t' || c == '\r'
}

// reader keeps what the lines of a text have said so far.
type reader struct {
	begun bool // has a line said something?
	net   Net
	kinds map[string]int // of the words that begin a layer: its kind
	parts map[string]int // of the words of a layer's further lines: the kind that has such lines
}

func newReader() *reader {
	return &reader{
		kinds: map[string]int{wordAffine: Affine, wordRelu: Relu, wordMax: Max},
		parts: map[string]int{wordRow: Affine, wordOf: Max},
	}
}

// take reads a line's first word, and the others; false: it is wrong there.
func (r *reader) take(head string, rest []string) bool {
	if !r.begun {
		r.begun = true
		return head == wordNet && r.width(rest)
	}
	if kind, ok := r.kinds[head]; ok {
		r.net.Layers = append(r.net.Layers, Layer{Kind: kind})
		return len(rest) == 0
	}
	kind, ok := r.parts[head]
	last := len(r.net.Layers) - 1
	if !ok || last < 0 || r.net.Layers[last].Kind != kind {
		return false
	}
	if kind == Affine {
		return r.net.Layers[last].row(rest)
	}
	return r.net.Layers[last].group(rest)
}

// width reads how many numbers come in.
func (r *reader) width(rest []string) bool {
	counts, ok := each(rest, count)
	if !ok || len(counts) != 1 {
		return false
	}
	r.net.In = counts[0]
	return true
}

// row reads a row's numbers, and that of B behind them.
func (l *Layer) row(rest []string) bool {
	numbers, ok := each(rest, number)
	last := len(numbers) - 1
	if !ok || last < 0 {
		return false
	}
	l.W = append(l.W, numbers[:last:last])
	l.B = append(l.B, numbers[last])
	return true
}

// group reads a group's places.
func (l *Layer) group(rest []string) bool {
	places, ok := each(rest, count)
	l.Groups = append(l.Groups, places)
	return ok
}

// each: what read makes of each word; false: one of them is wrong.
func each[T any](words []string, read func(string) (T, bool)) ([]T, bool) {
	out := make([]T, len(words))
	for i, word := range words {
		var ok bool
		if out[i], ok = read(word); !ok {
			return nil, false
		}
	}
	return out, true
}

const maxCountDigits = 6

// count: the number of one to six digits.
func count(word string) (int, bool) {
	if len(word) > maxCountDigits || strings.Trim(word, "0123456789") != "" {
		return 0, false
	}
	n, err := strconv.Atoi(word)
	return n, err == nil
}

func number(word string) (rat.Rat, bool) {
	r, e := rtext.Parse(word)
	return r, e == api.OK
}
