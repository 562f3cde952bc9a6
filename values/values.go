// Package values: what a key may be worth, how it is written, and what values make.
package values

import (
	"slices"
	"strconv"
	"strings"

	"larder/api"
)

// Value is a Number, a Word or a List. None is changed once it is made, so lists may share what stands in them.
type Value interface {
	// Written is the value as the document writes it.
	Written() string
	// nest is how many lists stand in one another.
	nest() int
}

// Number is 64 bits with a sign; Go's own wrap-round is the document's.
type Number int64

// Word is a row of bytes, without the quotes that it is written in.
type Word string

// List is values in their order.
type List []Value

func (n Number) Written() string { return strconv.FormatInt(int64(n), 10) }

func (w Word) Written() string { return "'" + string(w) + "'" }

func (l List) Written() string {
	texts := make([]string, len(l))
	for i, v := range l {
		texts[i] = v.Written()
	}
	return "{" + strings.Join(texts, ",") + "}"
}

func (n Number) nest() int { return 0 }

func (w Word) nest() int { return 0 }

func (l List) nest() int {
	inner := 0
	for _, v := range l {
		inner = max(inner, v.nest())
	}
	return inner + 1
}

// ListOf is the list of these values; it gives up where that would be no value.
func ListOf(items []Value) List {
	list := List(slices.Clone(items))
	if len(list) > api.MaxItems || list.nest() > api.MaxNest {
		panic(Broken(api.ErrLarge))
	}
	return list
}

// NumberIn is a value that must be a number.
func NumberIn(v Value) Number {
	if n, ok := v.(Number); ok {
		return n
	}
	panic(Broken(api.ErrKind))
}

// ListIn is a value that must be a list.
func ListIn(v Value) List {
	if l, ok := v.(List); ok {
		return l
	}
	panic(Broken(api.ErrKind))
}

// Size is how many bytes a word has, or values a list.
func Size(v Value) Value {
	switch v := v.(type) {
	case Word:
		return Number(len(v))
	case List:
		return Number(len(v))
	}
	panic(Broken(api.ErrKind))
}

// Sum is the sum of a list of numbers.
func Sum(v Value) Value {
	var sum Number
	for _, item := range ListIn(v) {
		sum += NumberIn(item)
	}
	return sum
}

// AsWord is a number as it is written, or a word itself.
func AsWord(v Value) Value {
	switch v := v.(type) {
	case Number:
		return Word(v.Written())
	case Word:
		return v
	}
	panic(Broken(api.ErrKind))
}
