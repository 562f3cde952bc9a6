package values

import (
	"strconv"
	"strings"

	"larder/api"
)

// Read is the value that a text is, as it is written, and whether it is one.
func Read(text string) (Value, bool) {
	v, rest, ok := readFirst(text, api.MaxNest)
	if !ok || rest != "" {
		return nil, false
	}
	return v, true
}

// ReadWorth reads the worth that a text begins with, as a journal has it, and tells what stands behind it.
func ReadWorth(text string) (Worth, string, bool) {
	for code := api.ErrNone; code <= api.ErrSpent; code++ {
		if rest, ok := strings.CutPrefix(text, brokenBy(code)); ok {
			return Worth{Code: code}, rest, true
		}
	}
	v, rest, ok := readFirst(text, api.MaxNest)
	if !ok {
		return Worth{}, "", false
	}
	return Worth{Is: v}, rest, true
}

// readFirst reads the value that a text begins with, in which up to nest lists may stand in one another, and tells what stands behind it.
func readFirst(text string, nest int) (Value, string, bool) {
	switch {
	case strings.HasPrefix(text, "'"):
		w, ok := ReadWord(text)
		if !ok {
			return nil, "", false
		}
		return w, text[len(w)+2:], true
	case strings.HasPrefix(text, "{"):
		return readItems(text[1:], nest)
	}
	size := len(text) - len(strings.TrimLeft(text, "-0123456789"))
	n, ok := ReadNumber(text[:size])
	return n, text[size:], ok
}

// ReadNumber is the number that a text is, as it is written. There is one way to write a number: so a text that would be written otherwise is none.
func ReadNumber(text string) (Number, bool) {
	n, err := strconv.ParseInt(text, 10, 64)
	if err != nil || Number(n).Written() != text {
		return 0, false
	}
	return Number(n), true
}

// ReadWord is the word that a text begins with, which stands there between two quotes.
func ReadWord(text string) (Word, bool) {
	if !strings.HasPrefix(text, "'") {
		return "", false
	}
	for i := 1; i < len(text) && i <= api.MaxWord+1; i++ {
		switch c := text[i]; {
		case c == '\'':
			return Word(text[1:i]), true
		case c < 32 || c > 126:
			return "", false
		}
	}
	return "", false
}

// readItems reads a list from behind its first brace.
func readItems(text string, nest int) (Value, string, bool) {
	if nest == 0 {
		return nil, "", false
	}
	if strings.HasPrefix(text, "}") {
		return List{}, text[1:], true
	}
	var items List
	for len(items) < api.MaxItems {
		item, rest, ok := readFirst(text, nest-1)
		if !ok || rest == "" {
			return nil, "", false
		}
		items = append(items, item)
		switch text = rest[1:]; rest[0] {
		case '}':
			return items, text, true
		case ',':
		default:
			return nil, "", false
		}
	}
	return nil, "", false
}
