package values

import "larder/api"

// Broken is what a part of a rule gives up with: by what it is broken.
type Broken api.Errno

// Worth is what something is worth: OK and a value, or by what it is broken and nil.
type Worth struct {
	Code api.Errno
	Is   Value
}

// Take is the value of what is not broken; what needs it is else broken likewise.
func (w Worth) Take() Value {
	if w.Code != api.OK {
		panic(Broken(w.Code))
	}
	return w.Is
}

// Same tells whether two things are worth the same: the same value, or broken by the same.
func (w Worth) Same(other Worth) bool {
	if w.Code != api.OK || other.Code != api.OK {
		return w.Code == other.Code
	}
	return equal(w.Is, other.Is)
}

// Told is this for who is outside: a value as it is written.
func (w Worth) Told() api.Worth {
	if w.Code != api.OK {
		return api.Worth{Code: w.Code}
	}
	return api.Worth{Is: w.Is.Written()}
}

// Written is this as a journal has it: a value as it is written, or by what it is broken.
func (w Worth) Written() string {
	if w.Code != api.OK {
		return brokenBy(w.Code)
	}
	return w.Is.Written()
}

// brokenBy has no word for round: nothing that is broken by that is kept, and so none is written.
func brokenBy(code api.Errno) string {
	switch code {
	case api.ErrNone:
		return "none"
	case api.ErrNought:
		return "nought"
	case api.ErrKind:
		return "kind"
	case api.ErrLarge:
		return "large"
	case api.ErrSpent:
		return "spent"
	}
	return ""
}

// Worked tells what some work is worth: this is where giving up ends. A panic of another kind is a fault of the program and goes on.
func Worked(work func() Value) (worth Worth) {
	defer func() {
		reason := recover()
		switch r := reason.(type) {
		case nil:
		case Broken:
			worth = Worth{Code: api.Errno(r)}
		default:
			panic(reason)
		}
	}()
	return Worth{Is: work()}
}
