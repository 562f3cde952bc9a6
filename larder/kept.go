package larder

import (
	"slices"

	"larder/api"
	"larder/rules"
	"larder/values"
)

// keeping is what is kept of a rule's last run: what it needed, in the order of the first time, and what it was worth.
type keeping struct {
	worth values.Worth
	needs []need
}

// need is a key that a run needed, and what came out.
type need struct {
	key   string
	worth values.Worth
}

// withNeed is needs and this one; one that is there already came out as it did the first time.
func withNeed(needs []need, key string, worth values.Worth) []need {
	if slices.ContainsFunc(needs, func(n need) bool { return n.key == key }) {
		return needs
	}
	return append(needs, need{key, worth})
}

// keep keeps this for a key that has a rule, in place of what was kept.
func (l *Larder) keep(key string, kept *keeping) {
	l.has[key].kept = kept
	l.write(kept.text(key))
}

// lose takes away what is kept for a key.
func (l *Larder) lose(key string) {
	l.has[key].kept = nil
	l.write("lose " + key)
}

// keptOf is what is kept for a key, or nil.
func (l *Larder) keptOf(key string) *keeping {
	if what, ok := l.has[key]; ok {
		return what.kept
	}
	return nil
}

// Ran tells whose rules were run by the last Ask, and why (P6).
func (l *Larder) Ran() []api.Cause { return slices.Clone(l.ran) }

// Kept tells what is kept for a key (P6).
func (l *Larder) Kept(key string) (api.Worth, []api.Need, api.Errno) {
	if !rules.IsName(key) {
		return api.Worth{}, nil, api.ErrName
	}
	kept := l.keptOf(key)
	if kept == nil {
		return api.Worth{}, nil, api.ErrNone
	}
	needs := make([]api.Need, len(kept.needs))
	for i, n := range kept.needs {
		needs[i] = api.Need{Key: n.key, Worth: n.worth.Told()}
	}
	return kept.worth.Told(), needs, api.OK
}

// Forget takes away what is kept for a key (P6).
func (l *Larder) Forget(key string) api.Errno {
	if !rules.IsName(key) {
		return api.ErrName
	}
	if l.keptOf(key) == nil {
		return api.ErrNone
	}
	l.lose(key)
	return api.OK
}
