package larder

import (
	"slices"

	"larder/api"
	"larder/rules"
	"larder/runs"
	"larder/values"
)

// Ask tells what a key is worth (P5).
func (l *Larder) Ask(key string) (string, api.Errno, []string) {
	if !rules.IsName(key) {
		return "", api.ErrName, nil
	}
	clear(l.done)
	l.ring = nil
	worth := l.bring(key)
	switch worth.Code {
	case api.OK:
		return worth.Is.Written(), api.OK, nil
	case api.ErrRound:
		return "", api.ErrRound, slices.Clone(l.ring)
	}
	return "", worth.Code, nil
}

// bring brings a key up to date, at most once in an Ask.
func (l *Larder) bring(key string) values.Worth {
	if worth, ok := l.done[key]; ok {
		return worth
	}
	if at := slices.Index(l.begun, key); at >= 0 {
		l.meet(l.begun[at:])
		return values.Worth{Code: api.ErrRound}
	}
	l.begun = append(l.begun, key)
	worth := l.workOut(key)
	l.begun = l.begun[:len(l.begun)-1]
	l.done[key] = worth
	return worth
}

// meet keeps the first ring alone: it is the one that an Ask tells.
func (l *Larder) meet(ring []string) {
	if l.ring == nil {
		l.ring = slices.Clone(ring)
	}
}

// workOut is what a key is worth now, by what it has.
func (l *Larder) workOut(key string) values.Worth {
	what, ok := l.has[key]
	switch {
	case !ok:
		return values.Worth{Code: api.ErrNone}
	case what.rule == nil:
		return values.Worth{Is: what.value}
	}
	r := runs.Of(what.rule)
	for need := range r.Needs {
		r.Tell(l.bring(need))
	}
	return r.Worth()
}
