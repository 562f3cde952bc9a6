package larder

import (
	"slices"

	"larder/api"
	"larder/rules"
	"larder/runs"
	"larder/values"
)

// Ask tells what a key is worth (P5), and works out of it only what it must (P6).
func (l *Larder) Ask(key string) (string, api.Errno, []string) {
	if !rules.IsName(key) {
		return "", api.ErrName, nil
	}
	clear(l.done)
	l.ring, l.ran = nil, nil
	worth := l.bring(key).Told()
	if worth.Code != api.ErrRound {
		return worth.Is, worth.Code, nil
	}
	return "", api.ErrRound, slices.Clone(l.ring)
}

// bring brings a key up to date, at most once in an Ask.
func (l *Larder) bring(key string) values.Worth {
	if worth, ok := l.done[key]; ok {
		return worth
	}
	if at := slices.Index(l.begun, key); at >= 0 {
		l.meet(l.begun[at:])
		return values.Worth{Code: api.ErrRound}
	}
	l.begun = append(l.begun, key)
	worth := l.workOut(key)
	l.begun = l.begun[:len(l.begun)-1]
	l.done[key] = worth
	return worth
}

// meet keeps the first ring alone: it is the one that an Ask tells.
func (l *Larder) meet(ring []string) {
	if l.ring == nil {
		l.ring = slices.Clone(ring)
	}
}

// workOut is what a key is worth now, by what it has.
func (l *Larder) workOut(key string) values.Worth {
	what, ok := l.has[key]
	switch {
	case !ok:
		return values.Worth{Code: api.ErrNone}
	case what.rule == nil:
		return values.Worth{Is: what.value}
	}
	cause, due := l.due(key, what.kept)
	if !due {
		return what.kept.worth
	}
	l.ran = append(l.ran, cause)
	return l.run(key, what)
}

// due tells whether a key's rule must be run, and why. A need behind the first one that has changed is let alone: the run may not come to it.
func (l *Larder) due(key string, kept *keeping) (api.Cause, bool) {
	if kept == nil {
		return api.Cause{Key: key}, true
	}
	for _, need := range kept.needs {
		if now := l.bring(need.key); !now.Same(need.worth) {
			return api.Cause{Key: key, Need: need.key, Was: need.worth.Told(), Now: now.Told()}, true
		}
	}
	return api.Cause{}, false
}

// run works a key's rule out, and keeps what came of it. The ring hangs on where an Ask begins, and must be met anew: nothing is kept of round.
func (l *Larder) run(key string, what *thing) values.Worth {
	r := runs.Of(what.rule)
	var needs []need
	for needed := range r.Needs {
		worth := l.bring(needed)
		r.Tell(worth)
		needs = withNeed(needs, needed, worth)
	}
	switch {
	case r.Worth().Code != api.ErrRound:
		l.keep(key, &keeping{r.Worth(), needs})
	case what.kept != nil:
		l.lose(key)
	}
	return r.Worth()
}
