package larder

import (
	"maps"
	"slices"
	"strings"

	"larder/api"
	"larder/lines"
	"larder/runs"
	"larder/values"
)

// Journal tells all that was written (P7).
func (l *Larder) Journal() string { return string(l.journal) }

// Pack writes the journal anew, as short as it can be (P7).
func (l *Larder) Pack() {
	l.journal = nil
	keys := slices.Sorted(maps.Keys(l.has))
	for _, key := range keys {
		l.write(l.has[key].text(key))
	}
	for _, key := range keys {
		if kept := l.has[key].kept; kept != nil {
			l.write(kept.text(key))
		}
	}
}

func (l *Larder) write(text string) {
	l.journal = append(l.journal, lines.Of(text)...)
}

// text is what the journal says when a key gets this thing.
func (what *thing) text(key string) string {
	if what.rule == nil {
		return "put " + key + " " + what.value.Written()
	}
	return "set " + key + " " + what.came
}

// text is what the journal says when this is kept for a key.
func (kept *keeping) text(key string) string {
	var b strings.Builder
	b.WriteString("keep " + key + " " + kept.worth.Written())
	for _, n := range kept.needs {
		b.WriteString(" " + n.key + "=" + n.worth.Written())
	}
	return b.String()
}

// Open makes a larder out of a journal (P8).
func Open(journal string) (*Larder, api.Errno) {
	if len(journal) > api.MaxJournal {
		return nil, api.ErrLong
	}
	l := New()
	for text := range lines.In(journal) {
		if !l.redo(text) {
			break
		}
	}
	return l, api.OK
}

// redo does what a line says, and tells whether that could be done. What is done writes the same line again: so the journal goes on where the good lines end.
func (l *Larder) redo(text string) bool {
	act, rest, _ := strings.Cut(text, " ")
	key, what, _ := strings.Cut(rest, " ")
	code := api.ErrForm
	switch act {
	case "put":
		code = l.Put(key, what)
	case "set":
		code, _ = l.Set(key, what)
	case "drop":
		code = l.Drop(rest)
	case "lose":
		code = l.Forget(rest)
	case "keep":
		return l.redoKeep(key, what)
	}
	return code == api.OK
}

// redoKeep keeps what a line says, without a look at whether a run would keep that.
func (l *Larder) redoKeep(key, text string) bool {
	what, ok := l.has[key]
	if !ok || what.rule == nil {
		return false
	}
	kept, ok := readKeeping(text)
	if ok {
		l.keep(key, kept)
	}
	return ok
}

// readKeeping reads a worth and the needs behind it.
func readKeeping(text string) (*keeping, bool) {
	worth, rest, ok := values.ReadWorth(text)
	kept := &keeping{worth: worth}
	times := map[string]int{}
	for ok && rest != "" {
		var n need
		n, rest, ok = readNeed(rest)
		times[n.key]++
		ok = ok && times[n.key] == 1
		kept.needs = append(kept.needs, n)
	}
	return kept, ok
}

// readNeed reads the first need of a text, with the blank ahead of it. A word may have blanks and `=` in it: so the text cannot be split by these.
func readNeed(text string) (need, string, bool) {
	text, apart := strings.CutPrefix(text, " ")
	key, text, _ := strings.Cut(text, "=")
	if !apart || !runs.IsKey(key) {
		return need{}, "", false
	}
	worth, rest, ok := values.ReadWorth(text)
	return need{key, worth}, rest, ok
}
