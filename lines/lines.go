// Package lines: the lines of a journal: texts that carry their sums.
package lines

import (
	"iter"
	"strconv"
	"strings"
)

// tail is how many bytes stand behind a line's text, ahead of its line feed.
const tail = len(" 00000000")

// Of is the line that a text makes.
func Of(text string) string {
	hex := strconv.FormatUint(uint64(sum(text)), 16)
	return text + " 00000000"[:tail-len(hex)] + hex + "\n"
}

// sum tells a text from what is left of another one.
func sum(text string) uint32 {
	s := uint32(2166136261)
	for i := range len(text) {
		s = (s ^ uint32(text[i])) * 16777619
	}
	return s
}

// In is the texts of a journal's lines, up to the first line that is none.
func In(journal string) iter.Seq[string] {
	return func(yield func(string) bool) {
		text, rest, ok := first(journal)
		for ok && yield(text) {
			text, rest, ok = first(rest)
		}
	}
}

// first is the text of a journal's first line, and what stands behind that line. There is one way to write a line: so one that its text would not make is none.
func first(journal string) (string, string, bool) {
	line, rest, ended := strings.Cut(journal, "\n")
	if !ended || len(line) < tail {
		return "", "", false
	}
	text := line[:len(line)-tail]
	return text, rest, Of(text) == journal[:len(line)+1]
}
