// Package runs: a rule being worked out.
package runs

import (
	"strings"

	"larder/api"
	"larder/rules"
	"larder/values"
)

// Run is one working out of a rule. Needs is the iterator over the keys that it needs; who ranges over it tells, for each, what it is worth, ahead of the next one.
type Run struct {
	tree  *rules.Node
	yield func(string) bool
	told  values.Worth
	fuel  int
	worth values.Worth
}

// Of is a run of a rule, to be ranged over once.
func Of(tree *rules.Node) *Run {
	return &Run{tree: tree, fuel: api.MaxFuel}
}

// Needs works the rule out, and hands over each key that it needs as it comes to it: one more than once, if it is needed again.
func (r *Run) Needs(yield func(string) bool) {
	r.yield = yield
	r.worth = values.Worked(func() values.Value { return r.work(r.tree, nil) })
	r.yield = nil
}

// Tell is for what the key that was handed over last is worth.
func (r *Run) Tell(worth values.Worth) { r.told = worth }

// Worth is what the rule is worth, when its needs have been ranged over.
func (r *Run) Worth() values.Worth { return r.worth }

// need is what a key is worth. A run that is ranged over no longer cannot go on: it is spent, which no try holds up.
func (r *Run) need(key string) values.Value {
	if !r.yield(key) {
		panic(values.Broken(api.ErrSpent))
	}
	return r.told.Take()
}

func (r *Run) spend() {
	if r.fuel == 0 {
		panic(values.Broken(api.ErrSpent))
	}
	r.fuel--
}

// work is what a part is worth, where it is the value that the innermost each or some is at.
func (r *Run) work(part *rules.Node, it values.Value) values.Value {
	if part.Kind != rules.Operator {
		r.spend()
	}
	switch part.Kind {
	case rules.Literal:
		return part.Is
	case rules.Name:
		return r.need(part.Name)
	case rules.It:
		return it
	case rules.Try:
		return r.try(part, it)
	case rules.Each:
		return r.each(part, it)
	case rules.Some:
		return r.some(part, it)
	case rules.List:
		return r.list(part, it)
	}
	return r.workFirst(part, it)
}

// workFirst is for the parts of which the first part within is worked out ahead of all else.
func (r *Run) workFirst(part *rules.Node, it values.Value) values.Value {
	first := r.work(part.Parts[0], it)
	switch part.Kind {
	case rules.Operator, rules.Both:
		return values.Make(part.Op, first, r.work(part.Parts[1], it))
	case rules.Minus:
		return values.Make('-', values.Number(0), first)
	case rules.Key:
		return r.need(keyOf(first))
	case rules.If:
		if values.NumberIn(first) != 0 {
			return r.work(part.Parts[1], it)
		}
		return r.work(part.Parts[2], it)
	case rules.Size:
		return values.Size(first)
	case rules.Sum:
		return values.Sum(first)
	case rules.Word:
		return values.AsWord(first)
	}
	return first // of a Group
}

// keyOf is the key that [ ] means. That of a number may be no name: then it never has anything.
func keyOf(v values.Value) string {
	switch v := v.(type) {
	case values.Number:
		return "k" + v.Written()
	case values.Word:
		if rules.IsName(string(v)) {
			return string(v)
		}
	}
	panic(values.Broken(api.ErrKind))
}

// IsKey tells whether a run may need a key that is called so: a name, or what [ ] makes of a number.
func IsKey(text string) bool {
	if rules.IsName(text) {
		return true
	}
	number, ok := strings.CutPrefix(text, "k")
	if ok {
		_, ok = values.ReadNumber(number)
	}
	return ok
}

func (r *Run) try(part *rules.Node, it values.Value) values.Value {
	first := values.Worked(func() values.Value { return r.work(part.Parts[0], it) })
	switch first.Code {
	case api.ErrNone, api.ErrNought, api.ErrKind, api.ErrLarge:
		return r.work(part.Parts[1], it)
	}
	return first.Take()
}

func (r *Run) list(part *rules.Node, it values.Value) values.Value {
	var items []values.Value
	for _, item := range part.Parts {
		items = append(items, r.work(item, it))
	}
	return values.ListOf(items)
}

func (r *Run) each(part *rules.Node, it values.Value) values.Value {
	var items []values.Value
	for _, inner := range values.ListIn(r.work(part.Parts[0], it)) {
		items = append(items, r.work(part.Parts[1], inner))
	}
	return values.ListOf(items)
}

func (r *Run) some(part *rules.Node, it values.Value) values.Value {
	var items []values.Value
	for _, inner := range values.ListIn(r.work(part.Parts[0], it)) {
		if values.NumberIn(r.work(part.Parts[1], inner)) != 0 {
			items = append(items, inner)
		}
	}
	return values.ListOf(items)
}
