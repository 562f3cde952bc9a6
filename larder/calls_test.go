package larder

import (
	"math/rand"
	"slices"
	"strconv"
	"strings"
	"sync"
	"testing"

	"larder/api"
)

// TestAnyStrings: P1: every call ends and none panics, and beside an error stands nothing that is not said to.
func TestAnyStrings(t *testing.T) {
	r := rand.New(rand.NewSource(1))
	l := New()
	keys := []string{"a", "b", "c", "k1", "k-1", "", "it", "A", "ninenines"}
	pieces := []string{"a", "b", "c", "1", "0", "-", "'x'", "'", "{", "}", "(", ")", "[", "]", ",", "+", "*", "/", "<", "=", " ", "it", "if ", " then ", " else ", "size(", "sum(", "word(", "min(", "try(", "at(", "each(", "some(", "\x00", "\xff", "9223372036854775807", "\n"}
	text := func() string {
		var b strings.Builder
		for range r.Intn(8) {
			b.WriteString(pieces[r.Intn(len(pieces))])
		}
		return b.String()
	}
	for range 100000 {
		key := keys[r.Intn(len(keys))]
		switch r.Intn(8) {
		case 0:
			l.Put(key, text())
		case 1:
			rule := text()
			checked, place := Check(rule)
			code, at := l.Set(key, rule)
			if code != api.ErrName && (code != checked || at != place) || code == api.ErrName && at != 0 {
				t.Fatalf("P4: Set(%q, %q) = %d, %d, but Check: %d, %d", key, rule, code, at, checked, place)
			}
		case 2:
			l.Drop(key)
		case 3:
			l.Forget(key)
		case 4:
			is, needs, code := l.Kept(key)
			if code != api.OK && (is != (api.Worth{}) || len(needs) != 0) || code == api.OK && (is.Is == "") != (is.Code != api.OK) {
				t.Fatalf("P1: Kept(%q) = %v, %v, %d", key, is, needs, code)
			}
			for _, cause := range l.Ran() {
				if cause.Need == "" && cause != (api.Cause{Key: cause.Key}) || cause.Need != "" && cause.Was == cause.Now {
					t.Fatalf("P1: Ran() has %v", cause)
				}
			}
		case 5:
			if again, code := Open(l.Journal() + text()); code != api.OK || again.Journal() != l.Journal() {
				t.Fatalf("P8: of the journal %q was done %q, %d", l.Journal(), again.Journal(), code)
			}
			l.Pack()
		default:
			value, code, ring := l.Ask(key)
			if (value == "") != (code != api.OK) || (len(ring) == 0) != (code != api.ErrRound) {
				t.Fatalf("P1: Ask(%q) = %q, %d, %v", key, value, code, ring)
			}
		}
	}
}

// TestAnyJournals: P1 and P8: whatever stands in a journal, Open takes whole lines of it from its beginning on, and the calls of that larder end; what it writes can be opened.
func TestAnyJournals(t *testing.T) {
	r := rand.New(rand.NewSource(2))
	oneOf := func(words ...string) string { return words[r.Intn(len(words))] }
	keys := []string{"a", "b", "c", "k1", "k-1"}
	worth := func() string {
		return oneOf("1", "1", "0", "'a b'", "{a}", "{1,{}}", "none", "none", "nought", "kind", "large", "spent", "round", "")
	}
	line := func() string {
		key := oneOf(keys...)
		switch r.Intn(6) {
		case 0:
			return "put " + key + " " + worth()
		case 1, 2:
			return "set " + key + " " + oneOf("a", "b+1", "[b]", "[-1]", "try(c,k1)", "{a,b,c}", "each({1},[it])", "if a then b else c")
		case 3:
			return oneOf("drop ", "lose ", "lose", "") + key
		}
		text := "keep " + key + " " + worth()
		for range r.Intn(4) {
			text += oneOf(" ", " ", " ", " ", "  ", "") + oneOf(keys...) + oneOf("=", "=", "=", "=", "==", "") + worth()
		}
		return text
	}
	longest := 0
	for range 2000 {
		var journal string
		for range 40 {
			next := sealed(line())
			if with, _ := Open(journal + next); with.Journal() == journal+next || r.Intn(20) == 0 {
				journal += next
			}
		}
		l, code := Open(journal)
		done := l.Journal()
		if code != api.OK || !strings.HasPrefix(journal, done) || done != "" && !strings.HasSuffix(done, "\n") {
			t.Fatalf("P8: of %q was done %q, %d", journal, done, code)
		}
		longest = max(longest, strings.Count(done, "\n"))
		for _, key := range keys {
			value, code, ring := l.Ask(key)
			if (value == "") != (code != api.OK) || (len(ring) == 0) != (code != api.ErrRound) {
				t.Fatalf("P1: out of %q Ask(%q) = %q, %d, %v", journal, key, value, code, ring)
			}
			if again, code := Open(l.Journal()); code != api.OK || again.Journal() != l.Journal() {
				t.Fatalf("P8: of the journal %q was done %q, %d", l.Journal(), again.Journal(), code)
			}
		}
	}
	if longest < 10 {
		t.Errorf("no journal was longer than %d lines", longest)
	}
}

// TestHugeStrings: P1 at texts that are far too long.
func TestHugeStrings(t *testing.T) {
	l := New()
	for _, piece := range []string{"a", "(", "{", "'", "-", "9", " ", "\x00", "{1,", "each(a,"} {
		huge := strings.Repeat(piece, 1000000)
		if code, at := Check(huge); code != api.ErrLong || at != 0 {
			t.Errorf("P3: Check of many %q = %d, %d", piece, code, at)
		}
		if code := l.Put("a", huge); code != api.ErrValue {
			t.Errorf("P4: Put of many %q = %d", piece, code)
		}
		if code := l.Put(huge, "1"); code != api.ErrName {
			t.Errorf("P4: Put to many %q = %d", piece, code)
		}
		broken(t, l, huge, api.ErrName)
	}
}

// TestEnds: P1: an Ask ends soon, though the keys need one another more than a number of 32 bits of ways.
func TestEnds(t *testing.T) {
	l := New()
	last := api.MaxKeys - 1
	for i := range last {
		next := "n" + strconv.Itoa(i+1)
		set(t, l, "n"+strconv.Itoa(i), next+"+"+next)
	}
	put(t, l, "n"+strconv.Itoa(last), "1")
	is(t, l, "n0", strconv.Itoa(1<<last))
	deep := strings.Repeat("(", api.MaxDeep-1) + "n0" + strings.Repeat(")", api.MaxDeep-1)
	set(t, l, "n"+strconv.Itoa(last), deep)
	_, code, ring := l.Ask("n0")
	if code != api.ErrRound || len(ring) != api.MaxKeys {
		t.Errorf("P5: a ring of all keys: %d, %v", code, ring)
	}
}

// TestNothingChanges: P1: what is refused leaves all as it was.
func TestNothingChanges(t *testing.T) {
	l := New()
	put(t, l, "v", "1")
	set(t, l, "r", "v+1")
	l.Put("v", "1 ")
	l.Put("r", "")
	l.Set("v", "2+")
	l.Set("r", strings.Repeat("-", api.MaxDeep)+"1")
	l.Set("r", strings.Repeat(" ", api.MaxRule)+"1")
	l.Put("x", "'")
	l.Set("x", "")
	l.Drop("x")
	is(t, l, "v", "1")
	is(t, l, "r", "2")
	broken(t, l, "x", api.ErrNone)
	if code := l.Drop("x"); code != api.ErrNone {
		t.Errorf("P1: a refused Put or Set left something: Drop = %d", code)
	}
}

// TestOrderOfErrors: P1: of several errors the one that is named first.
func TestOrderOfErrors(t *testing.T) {
	l := New()
	for i := range api.MaxKeys {
		put(t, l, "n"+strconv.Itoa(i), "1")
	}
	long, deep := strings.Repeat("?", api.MaxRule+1), strings.Repeat("-", api.MaxDeep)+"1"
	for _, c := range []struct {
		key, value string
		want       api.Errno
	}{{"if", "?", api.ErrName}, {"if", "1", api.ErrName}, {"x", "?", api.ErrValue}, {"x", "1", api.ErrFull}, {"n1", "?", api.ErrValue}} {
		if code := l.Put(c.key, c.value); code != c.want {
			t.Errorf("P4: Put(%q, %q) = %d, want %d", c.key, c.value, code, c.want)
		}
	}
	for _, c := range []struct {
		key, rule string
		want      api.Errno
		at        int
	}{
		{"if", long, api.ErrName, 0}, {"if", "1+", api.ErrName, 0}, {"if", deep, api.ErrName, 0}, {"if", "1", api.ErrName, 0},
		{"x", long, api.ErrLong, 0}, {"x", "1+", api.ErrForm, 2}, {"x", deep, api.ErrDeep, 20}, {"x", deep + "?", api.ErrDeep, 20}, {"x", "1", api.ErrFull, 0},
		{"n1", long, api.ErrLong, 0}, {"n1", "1+", api.ErrForm, 2}, {"n1", deep, api.ErrDeep, 20},
	} {
		if code, at := l.Set(c.key, c.rule); code != c.want || at != c.at {
			t.Errorf("P4: Set(%q, %q) = %d, %d, want %d, %d", c.key, c.rule, code, at, c.want, c.at)
		}
	}
}

// TestSideBySide: P2: larders know nothing of one another, however they are used.
func TestSideBySide(t *testing.T) {
	one, other := New(), New()
	put(t, one, "a", "1")
	set(t, one, "b", "a+a")
	set(t, other, "a", "b")
	is(t, one, "b", "2")
	broken(t, other, "a", api.ErrNone)
	set(t, other, "b", "a")
	broken(t, other, "b", api.ErrRound, "b", "a")
	is(t, one, "b", "2")
	drop(t, other, "a")
	is(t, one, "a", "1")

	var all sync.WaitGroup
	for n := range 8 {
		all.Go(func() {
			l := New()
			l.Set("all", "sum(each({1,2,3},it*n))")
			for i := range 200 {
				l.Put("n", strconv.Itoa(n*i))
				is(t, l, "all", strconv.Itoa(6*n*i))
			}
		})
	}
	all.Wait()
}

// TestListIsTheCallers: P2: the ring may be changed and added to, and nothing comes of it.
func TestListIsTheCallers(t *testing.T) {
	l := New()
	set(t, l, "a", "b")
	set(t, l, "b", "c")
	set(t, l, "c", "b")
	_, _, first := l.Ask("a")
	_, _, second := l.Ask("a")
	full := first[:cap(first)]
	for i := range full {
		full[i] = "changed"
	}
	if !slices.Equal(second, []string{"b", "c"}) {
		t.Errorf("P2: the lists of two answers share memory: %v", second)
	}
	broken(t, l, "a", api.ErrRound, "b", "c")
	broken(t, l, "c", api.ErrRound, "c", "b")
}
