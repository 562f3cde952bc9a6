// Package rules: rules as texts, their tokens, and the trees that they are made into.
package rules

import (
	"strings"

	"larder/api"
	"larder/values"
)

type tokenKind int

const (
	end tokenKind = iota // the text is over
	bad                  // cannot stand anywhere
	digits
	word
	name
	term
	sign
)

type token struct {
	kind tokenKind
	text string       // as it stands in the rule
	at   int          // the place of its first byte
	is   values.Value // of digits and words
}

// IsName tells whether a text is a name.
func IsName(text string) bool {
	t := firstToken(text)
	return t.kind == name && t.text == text
}

func isTerm(text string) bool {
	switch text {
	case "if", "then", "else", "it", "try", "min", "max", "size", "at", "each", "some", "sum", "word":
		return true
	}
	return false
}

func isLetter(c byte) bool { return 'a' <= c && c <= 'z' }

func isDigit(c byte) bool { return '0' <= c && c <= '9' }

// tokenAt is the first token of a text that stands at a place or behind it.
func tokenAt(text string, at int) token {
	for at < len(text) && text[at] == ' ' {
		at++
	}
	t := firstToken(text[at:])
	t.at = at
	return t
}

func firstToken(text string) token {
	if text == "" {
		return token{kind: end}
	}
	switch c := text[0]; {
	case isDigit(c):
		return digitsToken(text)
	case isLetter(c):
		return letterToken(text)
	case c == '\'':
		return wordToken(text)
	case strings.IndexByte("()[]{},+-*/<=", c) >= 0:
		return token{kind: sign, text: text[:1]}
	}
	return token{kind: bad}
}

// leading is as many bytes of a text, from its first on, as are such.
func leading(text string, such func(byte) bool) string {
	size := 0
	for size < len(text) && such(text[size]) {
		size++
	}
	return text[:size]
}

func digitsToken(text string) token {
	row := leading(text, isDigit)
	n, ok := values.ReadNumber(row)
	if !ok {
		return token{kind: bad}
	}
	return token{kind: digits, text: row, is: n}
}

func letterToken(text string) token {
	row := leading(text, func(c byte) bool { return isLetter(c) || isDigit(c) })
	switch {
	case isTerm(row):
		return token{kind: term, text: row}
	case len(row) > api.MaxName:
		return token{kind: bad}
	}
	return token{kind: name, text: row}
}

func wordToken(text string) token {
	w, ok := values.ReadWord(text)
	if !ok {
		return token{kind: bad}
	}
	return token{kind: word, text: text[:len(w)+2], is: w}
}
