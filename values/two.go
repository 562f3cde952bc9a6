package values

import (
	"slices"

	"larder/api"
)

// The bytes that stand for those terms that make something of two values, as operators do.
const (
	OpMin = 'm'
	OpMax = 'x'
	OpAt  = '@'
)

// two is a pair of values that are both there, ahead of any look at their kinds.
type two struct{ x, y Value }

// Make is what two values make by an operator's byte.
func Make(op byte, x, y Value) Value {
	makers := [...]func(two) Value{
		'+': two.plus, '-': two.minus, '*': two.times, '/': two.over,
		'<': two.less, '=': two.same,
		OpMin: two.least, OpMax: two.most, OpAt: two.at,
	}
	return makers[op](two{x, y})
}

func (t two) numbers() (Number, Number) {
	return NumberIn(t.x), NumberIn(t.y)
}

func (t two) plus() Value {
	switch x := t.x.(type) {
	case Number:
		return x + NumberIn(t.y)
	case Word:
		if y, ok := t.y.(Word); ok {
			return join(x, y)
		}
	case List:
		return ListOf(slices.Concat(x, ListIn(t.y)))
	}
	panic(Broken(api.ErrKind))
}

func join(x, y Word) Value {
	if len(x)+len(y) > api.MaxWord {
		panic(Broken(api.ErrLarge))
	}
	return x + y
}

func (t two) minus() Value {
	x, y := t.numbers()
	return x - y
}

func (t two) times() Value {
	x, y := t.numbers()
	return x * y
}

func (t two) over() Value {
	x, y := t.numbers()
	if y == 0 {
		panic(Broken(api.ErrNought))
	}
	return x / y
}

func (t two) less() Value {
	switch x := t.x.(type) {
	case Number:
		return truth(x < NumberIn(t.y))
	case Word:
		if y, ok := t.y.(Word); ok {
			return truth(x < y)
		}
	}
	panic(Broken(api.ErrKind))
}

func (t two) same() Value { return truth(equal(t.x, t.y)) }

// equal tells lists apart value by value: Go's == would panic at them.
func equal(x, y Value) bool {
	switch x := x.(type) {
	case Number:
		y, ok := y.(Number)
		return ok && x == y
	case Word:
		y, ok := y.(Word)
		return ok && x == y
	case List:
		y, ok := y.(List)
		return ok && slices.EqualFunc(x, y, equal)
	}
	return false
}

func truth(holds bool) Value {
	if holds {
		return Number(1)
	}
	return Number(0)
}

func (t two) least() Value {
	x, y := t.numbers()
	return min(x, y)
}

func (t two) most() Value {
	x, y := t.numbers()
	return max(x, y)
}

func (t two) at() Value {
	place := NumberIn(t.y)
	switch x := t.x.(type) {
	case Word:
		i := inside(place, len(x))
		return x[i : i+1]
	case List:
		return x[inside(place, len(x))]
	}
	panic(Broken(api.ErrKind))
}

func inside(place Number, size int) int {
	if place < 0 || place >= Number(size) {
		panic(Broken(api.ErrNone))
	}
	return int(place)
}
