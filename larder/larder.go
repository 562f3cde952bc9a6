// Package larder: values worked out by rules: see DOC.md.
package larder

import (
	"larder/api"
	"larder/rules"
	"larder/values"
)

// Check tells whether a text is a rule (P3).
func Check(rule string) (api.Errno, int) {
	_, code, at := rules.Parse(rule)
	return code, at
}

// Larder is keys with their values and rules, what is kept of the runs of these, and the journal of all that.
type Larder struct {
	has     map[string]*thing
	done    map[string]values.Worth // what was brought up to date within the Ask
	begun   []string                // the keys that are being brought up to date, in the order in which they were begun
	ring    []string                // the first one that was met in the Ask
	ran     []api.Cause             // of the last Ask
	journal []byte                  // all lines that were written so far
}

// thing is what a key has: a value, or else a rule. What is kept stands in it, so that it goes when the key gets another thing, or has none any more.
type thing struct {
	value values.Value
	rule  *rules.Node
	came  string   // the rule as it came
	kept  *keeping // nil, if nothing is kept
}

// New makes an empty larder (P4).
func New() *Larder {
	return &Larder{has: map[string]*thing{}, done: map[string]values.Worth{}}
}

// Put gives a key a value (P4).
func (l *Larder) Put(key string, value string) api.Errno {
	if !rules.IsName(key) {
		return api.ErrName
	}
	v, ok := values.Read(value)
	if !ok {
		return api.ErrValue
	}
	return l.give(key, &thing{value: v})
}

// Set gives a key a rule (P4).
func (l *Larder) Set(key string, rule string) (api.Errno, int) {
	if !rules.IsName(key) {
		return api.ErrName, 0
	}
	tree, code, at := rules.Parse(rule)
	if code != api.OK {
		return code, at
	}
	return l.give(key, &thing{rule: tree, came: rule}), 0
}

// give lays a thing by a key, if there is room.
func (l *Larder) give(key string, what *thing) api.Errno {
	if _, ok := l.has[key]; !ok && len(l.has) >= api.MaxKeys {
		return api.ErrFull
	}
	l.has[key] = what
	l.write(what.text(key))
	return api.OK
}

// Drop takes from a key what it has (P4).
func (l *Larder) Drop(key string) api.Errno {
	if !rules.IsName(key) {
		return api.ErrName
	}
	if _, ok := l.has[key]; !ok {
		return api.ErrNone
	}
	delete(l.has, key)
	l.write("drop " + key)
	return api.OK
}
