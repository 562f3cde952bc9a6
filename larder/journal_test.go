package larder

import (
	"slices"
	"strconv"
	"strings"
	"testing"

	"larder/api"
	"larder/lines"
)

// sealed is texts as the lines of a journal.
func sealed(texts ...string) string {
	var b strings.Builder
	for _, text := range texts {
		b.WriteString(lines.Of(text))
	}
	return b.String()
}

// wrote holds the journal against texts.
func wrote(t *testing.T, l *Larder, want ...string) {
	t.Helper()
	if got := l.Journal(); got != sealed(want...) {
		t.Errorf("P7: Journal() = %.2000q, want %.2000q", got, sealed(want...))
	}
}

// adds holds what some work writes, behind what was written ahead of it.
func adds(t *testing.T, l *Larder, work func(), want ...string) {
	t.Helper()
	before := l.Journal()
	work()
	if got := l.Journal(); got != before+sealed(want...) {
		t.Errorf("P7: the journal was %q and is %q, want %q behind it", before, got, sealed(want...))
	}
}

// TestExampleFive: P7: the document's example 5.
func TestExampleFive(t *testing.T) {
	l := New()
	wrote(t, l)
	put(t, l, "a", "2")
	if got := l.Journal(); got != "put a 2 d39f2de3\n" {
		t.Errorf("P7: Journal() = %q", got)
	}
}

// TestPutSetDrop: P7: each writes its line when it is done, also if nothing is other than it was.
func TestPutSetDrop(t *testing.T) {
	l := New()
	long := strings.Repeat(" ", api.MaxRule-1) + "a"
	put(t, l, "a", "-9223372036854775808")
	put(t, l, "a", "'x  =y '")
	put(t, l, "a", "'x  =y '")
	set(t, l, "a", "  1 +a  ")
	set(t, l, "a", "  1 +a  ")
	set(t, l, "abcdefg8", long)
	put(t, l, "k10", "{{{}},' ',''}")
	drop(t, l, "a")
	drop(t, l, "k10")
	wrote(t, l, "put a -9223372036854775808", "put a 'x  =y '", "put a 'x  =y '", "set a   1 +a  ", "set a   1 +a  ", "set abcdefg8 "+long, "put k10 {{{}},' ',''}", "drop a", "drop k10")
}

// TestRefusedWritesNothing: P7 and P1: what is refused, and what only tells, writes no line.
func TestRefusedWritesNothing(t *testing.T) {
	l := New()
	for i := range api.MaxKeys - 1 {
		put(t, l, "n"+strconv.Itoa(i), "1")
	}
	set(t, l, "r", "n1")
	is(t, l, "r", "1")
	adds(t, l, func() {
		for _, key := range []string{"", "it", "A", "k-1", "ninenines", "n1 ", "new"} {
			l.Put(key, "1")
			l.Set(key, "1")
			l.Drop(key)
			l.Forget(key)
			l.Ask(key)
			l.Kept(key)
		}
		l.Put("n1", "1 ")
		l.Put("n1", "none")
		l.Set("n1", "1+")
		l.Set("n1", strings.Repeat(" ", api.MaxRule)+"1")
		l.Set("n1", strings.Repeat("-", api.MaxDeep)+"1")
		l.Forget("n1")
		l.Ask("n1")
		l.Ask("r")
		l.Ran()
		l.Journal()
		Check("a")
	})
}

// TestKeepLines: P7: a run writes what is kept of it when it ends: so a need's line stands ahead of that of who needs it.
func TestKeepLines(t *testing.T) {
	l := New()
	put(t, l, "n", "1")
	set(t, l, "c", "b+{[n],n}+b")
	set(t, l, "b", "{try([-1],'= ')}")
	put(t, l, "k1", "'a b'")
	adds(t, l, func() { is(t, l, "c", "{'= ','a b',1,'= '}") }, "keep b {'= '} k-1=none", "keep c {'= ','a b',1,'= '} b={'= '} n=1 k1='a b'")
	adds(t, l, func() { is(t, l, "c", "{'= ','a b',1,'= '}") })
	put(t, l, "n", "1")
	adds(t, l, func() { is(t, l, "c", "{'= ','a b',1,'= '}") })
	put(t, l, "k1", "{{}}")
	adds(t, l, func() { is(t, l, "c", "{'= ',{{}},1,'= '}") }, "keep c {'= ',{{}},1,'= '} b={'= '} n=1 k1={{}}")
	set(t, l, "b", "[n]")
	adds(t, l, func() { is(t, l, "c", "{{},{{}},1,{}}") }, "keep b {{}} n=1 k1={{}}", "keep c {{},{{}},1,{}} b={{}} n=1 k1={{}}")
	// a run is written though nothing came out otherwise, and who needs it is not run
	set(t, l, "b", "k1")
	adds(t, l, func() { is(t, l, "c", "{{},{{}},1,{}}") }, "keep b {{}} k1={{}}")
	set(t, l, "one", "1")
	adds(t, l, func() { is(t, l, "one", "1") }, "keep one 1")
}

// TestBrokenLines: P7: by what something is broken stands there as a word; an Ask that answers an error has written what it worked out.
func TestBrokenLines(t *testing.T) {
	for _, c := range [][2]string{{"q+n", "none"}, {"n/0", "nought"}, {"n+'a'", "kind"}, {"{{{{n}}}}", "large"}, {spender + "+n", "spent"}} {
		l := New()
		put(t, l, "n", "1")
		set(t, l, "b", c[0])
		set(t, l, "c", "n+b+n")
		l.Ask("c")
		_, needs, _ := l.Kept("b")
		text := "keep b " + c[1]
		for _, n := range needs {
			text += " " + n.Key + "=" + map[api.Worth]string{{Is: "1"}: "1", {Code: api.ErrNone}: "none"}[n.Worth]
		}
		wrote(t, l, "put n 1", "set b "+c[0], "set c n+b+n", text, "keep c "+c[1]+" n=1 b="+c[1])
	}
}

// TestLoseLines: P7: Forget writes a line, and so does a run that is broken by round, if something was kept; what takes away without these does not.
func TestLoseLines(t *testing.T) {
	l := New()
	set(t, l, "x", "if s then y else 1")
	set(t, l, "y", "x")
	set(t, l, "z", "y+calm")
	set(t, l, "calm", "s")
	adds(t, l, func() { broken(t, l, "z", api.ErrNone) }, "keep x none s=none", "keep y none x=none", "keep z none y=none")
	adds(t, l, func() { forget(t, l, "y"); l.Forget("y") }, "lose y")
	put(t, l, "s", "1")
	// nothing is kept for y: its run writes nothing
	adds(t, l, func() { broken(t, l, "z", api.ErrRound, "y", "x") }, "lose x", "lose z")
	adds(t, l, func() { broken(t, l, "z", api.ErrRound, "y", "x") })
	put(t, l, "s", "0")
	adds(t, l, func() { is(t, l, "z", "1") }, "keep x 1 s=0", "keep y 1 x=1", "keep calm 0 s=0", "keep z 1 y=1 calm=0")
	set(t, l, "other", "calm+1+z")
	put(t, l, "s", "2")
	adds(t, l, func() { broken(t, l, "other", api.ErrRound, "y", "x") }, "keep calm 2 s=2", "lose x", "lose y", "lose z")
	set(t, l, "calm", "5")
	adds(t, l, func() { is(t, l, "calm", "5") }, "keep calm 5")
	adds(t, l, func() {
		set(t, l, "calm", "6")
		is(t, l, "calm", "6")
		put(t, l, "calm", "7")
		set(t, l, "calm", "8")
		is(t, l, "calm", "8")
		drop(t, l, "calm")
	}, "set calm 6", "keep calm 6", "put calm 7", "set calm 8", "keep calm 8", "drop calm")
}

// TestPack: P7: what keys have by rising names, and then what is kept by rising names, whatever was done ahead of it and in which order.
func TestPack(t *testing.T) {
	l := New()
	l.Pack()
	wrote(t, l)
	keys := []string{"z", "k2", "a", "k10", "b9", "b", "ba", "k1", "b10"}
	for i, key := range keys {
		put(t, l, key, strconv.Itoa(i))
		set(t, l, "r"+key, " "+key+" ")
	}
	for _, key := range slices.Backward(keys) {
		l.Ask("r" + key)
	}
	drop(t, l, "a")
	put(t, l, "rk1", "'now a value'")
	set(t, l, "rz", "rz")
	forget(t, l, "rb")
	l.Ask("rz")
	l.Ask("ra")
	want := []string{
		"put b 5", "put b10 8", "put b9 4", "put ba 6", "put k1 7", "put k10 3", "put k2 1",
		"set ra  a ", "set rb  b ", "set rb10  b10 ", "set rb9  b9 ", "set rba  ba ", "put rk1 'now a value'", "set rk10  k10 ", "set rk2  k2 ", "set rz rz", "put z 0",
		"keep ra none a=none", "keep rb10 8 b10=8", "keep rb9 4 b9=4", "keep rba 6 ba=6", "keep rk10 3 k10=3", "keep rk2 1 k2=1",
	}
	causes := l.Ran()
	for range 2 {
		l.Pack()
		wrote(t, l, want...)
	}
	if !slices.Equal(l.Ran(), causes) {
		t.Errorf("P9: behind Pack Ran() = %v, want %v", l.Ran(), causes)
	}
	adds(t, l, func() { is(t, l, "rk10", "3"); is(t, l, "rb", "5") }, "keep rb 5 b=5")
	for key := range l.has {
		l.Drop(key)
	}
	l.Pack()
	wrote(t, l)
	adds(t, l, func() { put(t, l, "a", "1") }, "put a 1")
}

// TestLongJournal: P7: all lines are told, also more than Open would take.
func TestLongJournal(t *testing.T) {
	l := New()
	var want []string
	for i := range 20000 {
		put(t, l, "a", strconv.Itoa(i))
		want = append(want, "put a "+strconv.Itoa(i))
	}
	told := l.Journal()
	wrote(t, l, want...)
	if opened, code := Open(told); opened != nil || code != api.ErrLong {
		t.Errorf("P8: Open of %d bytes = %v, %d", len(told), opened, code)
	}
	l.Pack()
	wrote(t, l, "put a 19999")
	if told != sealed(want...) {
		t.Error("P2: what Journal told was changed")
	}
}
