package larder

import (
	"strconv"
	"strings"
	"testing"

	"larder/api"
)

// TestNew: P4: no key has anything, and a rule may need what has nothing.
func TestNew(t *testing.T) {
	l := New()
	broken(t, l, "a", api.ErrNone)
	if code := l.Drop("a"); code != api.ErrNone {
		t.Errorf("P4: Drop of nothing = %d", code)
	}
}

// TestNames: P4 and P5: what is no name is refused by each call.
func TestNames(t *testing.T) {
	l := New()
	terms := "if then else it try min max size at each some sum word"
	for _, key := range append(strings.Fields(terms), "", " ", "a ", "A", "9", "9a", "k-1", "a.b", "ninenines", "'a'", "\xff") {
		if code := l.Put(key, "1"); code != api.ErrName {
			t.Errorf("P4: Put(%q) = %d", key, code)
		}
		if code, at := l.Set(key, "1"); code != api.ErrName || at != 0 {
			t.Errorf("P4: Set(%q) = %d, %d", key, code, at)
		}
		if code := l.Drop(key); code != api.ErrName {
			t.Errorf("P4: Drop(%q) = %d", key, code)
		}
		broken(t, l, key, api.ErrName)
	}
	for _, key := range []string{"a", "z9", "eighteig", "k1234567", "iff", "its"} {
		put(t, l, key, "1")
		is(t, l, key, "1")
	}
}

// TestPut: P4: a value as it is written, in place of what was there.
func TestPut(t *testing.T) {
	l := New()
	word := "'" + strings.Repeat("w", api.MaxWord) + "'"
	items := "{" + strings.Repeat("1,", api.MaxItems-1) + "1}"
	for _, value := range []string{"0", "-1", "9223372036854775807", "-9223372036854775808", "''", "' '", word, "{}", items, "{{{}}}", "{1,'a b',{}}", "{{'{'},{{'}',','}}}"} {
		put(t, l, "a", value)
		is(t, l, "a", value)
	}
	set(t, l, "a", "1+1")
	is(t, l, "a", "2")
	put(t, l, "a", "3")
	is(t, l, "a", "3")
	for _, value := range []string{"", " ", "-0", "+1", "01", "1 ", " 1", "9223372036854775808", "-9223372036854775809", "a", "1+1", "'", "'a", "'a'b'", "'\x1f'", "'\x7f'", word + "'", "'w" + word[1:], "{", "{1, 2}", "{1,}", "{}{}", "{{{{}}}}", "{1," + items[1:], "none"} {
		if code := l.Put("a", value); code != api.ErrValue {
			t.Errorf("P4: Put(a, %q) = %d", value, code)
		}
	}
	is(t, l, "a", "3")
}

// TestFull: P4: 40 keys, of values and rules together; what has something may have another thing; what is dropped makes room.
func TestFull(t *testing.T) {
	l := New()
	for i := range api.MaxKeys {
		if i%2 == 0 {
			put(t, l, "n"+strconv.Itoa(i), "1")
		} else {
			set(t, l, "n"+strconv.Itoa(i), "n0+x")
		}
	}
	full := func(key string) {
		t.Helper()
		if code := l.Put(key, "1"); code != api.ErrFull {
			t.Errorf("P4: Put(%s) to a full larder = %d", key, code)
		}
		if code, at := l.Set(key, "1"); code != api.ErrFull || at != 0 {
			t.Errorf("P4: Set(%s) to a full larder = %d, %d", key, code, at)
		}
	}
	full("x")
	broken(t, l, "n1", api.ErrNone)
	full("x")
	set(t, l, "n0", "2")
	put(t, l, "n3", "5")
	drop(t, l, "n5")
	if code := l.Drop("n5"); code != api.ErrNone {
		t.Errorf("P4: Drop twice = %d", code)
	}
	broken(t, l, "n5", api.ErrNone)
	set(t, l, "x", "n3")
	is(t, l, "n1", "7")
	full("n5")
}

// TestSetAndDrop: P4: what is asked for is worth what it has now.
func TestSetAndDrop(t *testing.T) {
	l := New()
	set(t, l, "a", " b * 2 ")
	broken(t, l, "a", api.ErrNone)
	put(t, l, "b", "4")
	is(t, l, "a", "8")
	set(t, l, "b", "c+1")
	put(t, l, "c", "9")
	is(t, l, "a", "20")
	drop(t, l, "c")
	broken(t, l, "a", api.ErrNone)
	put(t, l, "c", "'w'")
	broken(t, l, "a", api.ErrKind)
	drop(t, l, "b")
	put(t, l, "b", "1")
	is(t, l, "a", "2")
	set(t, l, "a", "b")
	is(t, l, "a", "1")
}
