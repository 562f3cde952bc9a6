package larder

import (
	"fmt"
	"slices"
	"strings"

	"larder/api"
	"larder/lines"
)

// askAll is an Ask, and all that is to be seen behind it, as one text.
func askAll(l *Larder, key string) (string, api.Errno, []string, string) {
	before := len(l.Journal())
	value, code, ring := l.Ask(key)
	return value, code, ring, fmt.Sprint(value, code, ring, l.Ran(), needsOf(l), l.Journal()[before:])
}

// twins is larders that answer as this one: opened out of its journal, packed, and opened out of the packed one.
func (s *story) twins() []*Larder {
	journal := s.l.Journal()
	twin, packed := open(s.t, journal), open(s.t, journal)
	packed.Pack()
	small := packed.Journal()
	other := open(s.t, small)
	ran(s.t, twin)
	ran(s.t, other)
	if twin.Journal() != journal || other.Journal() != small {
		s.t.Errorf("P8: of %q was done %q, and packed, of %q, %q", journal, twin.Journal(), small, other.Journal())
	}
	return []*Larder{twin, packed, other}
}

// remains is what is left by lines: the last text that gave a key what it has, and the last one of what is kept for it.
type remains struct{ given, kept map[string]string }

func remainsOf(journal string) remains {
	left := remains{map[string]string{}, map[string]string{}}
	for text := range lines.In(journal) {
		words := strings.SplitN(text, " ", 3)
		act, key := words[0], words[1]
		delete(left.kept, key)
		switch act {
		case "put", "set":
			left.given[key] = text
		case "drop":
			delete(left.given, key)
		case "keep":
			left.kept[key] = text
		}
	}
	return left
}

func textsByKey(texts map[string]string) []string {
	var all []string
	for _, key := range strings.Fields(storyKeys) {
		if text, ok := texts[key]; ok {
			all = append(all, text)
		}
	}
	return all
}

// cutOff: out of a part of the journal comes a larder to which its whole lines were done, and which tells what one tells in which nothing was kept.
func (s *story) cutOff() {
	journal := s.l.Journal()
	for range 20 {
		part := journal[:s.r.Intn(len(journal)+1)]
		whole := part[:strings.LastIndex(part, "\n")+1]
		l := open(s.t, part)
		if l.Journal() != whole {
			s.t.Errorf("P8: of %q was done %q", part, l.Journal())
		}
		left := remainsOf(whole)
		l.Pack()
		wrote(s.t, l, slices.Concat(textsByKey(left.given), textsByKey(left.kept))...)
		for range 5 {
			key := s.key()
			value, code, ring := l.Ask(key)
			fresh := open(s.t, sealed(textsByKey(left.given)...))
			freshValue, freshCode, freshRing := fresh.Ask(key)
			if value != freshValue || code != freshCode || !slices.Equal(ring, freshRing) {
				s.t.Errorf("P9: out of %q Ask(%s) = %q, %d, %v; if nothing is kept %q, %d, %v", whole, key, value, code, ring, freshValue, freshCode, freshRing)
			}
		}
	}
}
