package larder

import (
	"strconv"
	"strings"
	"testing"

	"larder/api"
	"larder/lines"
)

func open(t *testing.T, journal string) *Larder {
	t.Helper()
	l, code := Open(journal)
	if l == nil || code != api.OK {
		t.Fatalf("P8: Open(%.200q) = %v, %d", journal, l, code)
	}
	return l
}

// opened is a larder out of texts that are all done.
func opened(t *testing.T, texts ...string) *Larder {
	t.Helper()
	l := open(t, sealed(texts...))
	wrote(t, l, texts...)
	return l
}

// TestOpen: P8: a larder goes on where the journal ends.
func TestOpen(t *testing.T) {
	texts := []string{"put a 2", "set b a*a+1", "set c if b<9 then [a] else 0", "put k2 7", "keep b 5 a=2", "keep c 7 b=5 a=2 k2=7"}
	l := opened(t, texts...)
	ran(t, l)
	kept(t, l, "c", "7 b=5 a=2 k2=7")
	kept(t, l, "b", "5 a=2")
	notKept(t, l, "a", "k2")
	asked(t, l, "c", "7")
	put(t, l, "a", "-2")
	asked(t, l, "c", "none", "b a 2 -2", "c a 2 -2")
	forget(t, l, "c")
	drop(t, l, "a")
	texts = append(texts, "put a -2", "keep b 5 a=-2", "keep c none b=5 a=-2 k-2=none", "lose c", "drop a")
	wrote(t, l, texts...)
	again := opened(t, texts...)
	notKept(t, again, "a", "c")
	kept(t, again, "b", "5 a=-2")
	again.Pack()
	wrote(t, again, "set b a*a+1", "set c if b<9 then [a] else 0", "put k2 7", "keep b 5 a=-2")
}

// TestOpenLong: P8: ErrLong and no larder, of more than MaxJournal bytes, whatever they are.
func TestOpenLong(t *testing.T) {
	var b strings.Builder
	for i := 0; b.Len() < api.MaxJournal-300; i++ {
		b.WriteString(lines.Of("put a " + strconv.Itoa(i)))
	}
	rest := api.MaxJournal - b.Len() - len(lines.Of("set r "))
	for _, c := range []struct {
		blanks int
		code   api.Errno
	}{{-1, api.OK}, {0, api.OK}, {1, api.ErrLong}} {
		first := lines.Of("set r " + strings.Repeat(" ", rest/2-1) + "1")
		last := lines.Of("set r " + strings.Repeat(" ", rest-rest/2-len(lines.Of("set r "))-1+c.blanks) + "1")
		journal := b.String() + first + last
		if len(journal) != api.MaxJournal+c.blanks {
			t.Fatalf("the journal has %d bytes", len(journal))
		}
		l, code := Open(journal)
		if code != c.code || (l == nil) != (code != api.OK) {
			t.Errorf("P8: Open of %d bytes = %v, %d", len(journal), l, code)
		}
		if l != nil && l.Journal() != journal {
			t.Errorf("P8: of %d bytes %d were done", len(journal), len(l.Journal()))
		}
	}
	for _, c := range []string{"x", "\n", "\x00", " "} {
		if l, code := Open(strings.Repeat(c, api.MaxJournal+1)); l != nil || code != api.ErrLong {
			t.Errorf("P8: Open of too many %q = %v, %d", c, l, code)
		}
		wrote(t, open(t, strings.Repeat(c, api.MaxJournal)))
	}
}

// head is done ahead of the lines that the tests of lines try.
func head() []string {
	return []string{"put v 1", "set r v+1", "set s 5", "keep s 5", "set old v", "keep old 1 v=1"}
}

// TestGoodLines: P8: lines that are done.
func TestGoodLines(t *testing.T) {
	for _, text := range []string{
		"put x 1", "put v 'a b'", "put r {}", "put s {{{'='}},-5}", "put abcdefg8 ''", "put k12 0", "put none 1", "put keep 1",
		"set x a+1", "set x  a ", "set v v", "set s 5", "set x 'put a 1'", "set x " + strings.Repeat(" ", api.MaxRule-1) + "1", "set x [k]",
		"drop v", "drop r", "drop s", "drop old", "lose s", "lose old",
		"keep r 1", "keep s 6", "keep old 1 v=1", "keep r none", "keep r nought", "keep r kind", "keep r large", "keep r spent", "keep r 'none'", "keep r {1,' '}", "keep r ' '", "keep r -9223372036854775808",
		"keep r 1 r=1", "keep r 1 v=none", "keep r 1 nothing=1", "keep r 1 none=none", "keep r nought a=kind b=large c=spent d=nought e=none", "keep r 'x y' a='=' b={'p q',{}} k5=-5 k-5=none k123456789012=0 zz='a=b'",
		"keep r 1 k-9223372036854775808=1 k9223372036854775807=1 k00=1 k01=2 k0=3", "keep r 1 a=1 aa=1 a1=1", "keep r 1 a='a=1 a=1'", "keep r 'q v=1' v='r=2'",
	} {
		opened(t, append(head(), text, "put last 1")...)
	}
}

// TestBadLines: P8: lines with right sums that are none: they and all behind them are left out, and nothing of them is done.
func TestBadLines(t *testing.T) {
	ahead := opened(t, head()...)
	ahead.Pack()
	for _, text := range []string{
		"", " ", "  ", "x", "put", "put ", "put x", "put x ", "put  1", "put x  1", "put x 1 ", " put x 1", "put  x 1", "put X 1", "put if 1", "put ninenines 1", "put k-1 1", "put x none", "put x -0", "put x 01", "put x v", "put x 1\r", "put x\t1", "Put x 1", "putx 1", "put x 1 2", "put x {1, 2}", "put x {{{{}}}}", "put x '\x7f'", "put x=1",
		"set", "set x", "set x ", "set x  ", "set  x 1", "set if 1", "set x 1+", "set x it", "set x ((((((((((((((((((((1))))))))))))))))))))", "set x " + strings.Repeat(" ", api.MaxRule) + "1", "set x 1\t", "SET x 1",
		"drop", "drop ", "drop x", "drop v ", "drop  v", "drop v r", "drop V", "drop if", "drop k-1", "dropv",
		"lose", "lose ", "lose r", "lose v", "lose x", "lose s ", "lose  s", "lose s s", "lose S", "lose k-1", "loses",
		"keep", "keep ", "keep r", "keep r ", "keep  r 1", "keep r  1", "keep v 1", "keep x 1", "keep R 1", "keep if 1", "keep k-1 1", "keep r round", "keep r ok", "keep r None", "keep r 01", "keep r -0", "keep r 'x", "keep r {", "keep r {{{{}}}}", "keep r 1x", "keep r nonea=1", "keep r none1", "keep r v", "keep r =1", "keep r v=1",
		"keep r 1 ", "keep r 1  v=1", "keep r 1 v=1 ", "keep r 1 v=1  s=1", "keep r 1 v", "keep r 1 v=", "keep r 1 v= 1", "keep r 1 v =1", "keep r 1 =1", "keep r 1 v==1", "keep r 1 v=1,s=1", "keep r 1 v=1s=1", "keep r 1v=1", "keep r 'x'v=1", "keep r 1 v=1 1", "keep r 'x' y", "keep r 1\tv=1", "keep r 1 v=round", "keep r 1 v=None", "keep r 1 v=01", "keep r 1 v='x", "keep r 1 v=x", "keep r 1 v={1", "keep r 1 v=1 s",
		"keep r 1 v=1 v=1", "keep r 1 v=1 v=2", "keep r 1 v=1 s=1 v=none", "keep r 1 k-5=1 a=1 k-5=1", "keep r 1 r=1 r=1",
		"keep r 1 if=1", "keep r 1 it=1", "keep r 1 A=1", "keep r 1 5=1", "keep r 1 -5=1", "keep r 1 'a'=1", "keep r 1 k-=1", "keep r 1 k-0=1", "keep r 1 k-01=1", "keep r 1 k01234567=1", "keep r 1 k9223372036854775808=1", "keep r 1 ninenines=1", "keep r 1 a-1=1",
		"keep s 6 v", "keep old 2 v=2 v=2",
		"pack", "ask r", "forget s", "check 1", "open", "journal", "put v 1\x00", "round r",
	} {
		l := open(t, sealed(append(head(), text, "put last 1", "drop v", "lose s")...))
		wrote(t, l, head()...)
		l.Pack()
		if l.Journal() != ahead.Journal() {
			t.Errorf("P8: behind %q packed is %q, want %q", text, l.Journal(), ahead.Journal())
		}
	}
}

// TestHangsOnAhead: P8: whether a line can be done hangs on those ahead of it.
func TestHangsOnAhead(t *testing.T) {
	for _, c := range []struct {
		texts string
		good  int
	}{
		{"drop a", 0}, {"lose a", 0}, {"keep a 1", 0}, {"put a 1;drop a;drop a", 2}, {"put a 1;drop a;put a 1;drop a", 4},
		{"set a 1;lose a", 1}, {"set a 1;keep a 1;lose a;lose a", 3}, {"set a 1;keep a 1;keep a 2;lose a;keep a 3;lose a", 6},
		{"set a 1;keep a 1;put a 1;lose a", 3}, {"set a 1;keep a 1;set a 1;lose a", 3}, {"set a 1;keep a 1;drop a;lose a", 3}, {"set a 1;keep a 1;drop a;set a 1;lose a", 4},
		{"put a 1;keep a 1", 1}, {"put a 1;set a 1;keep a 1", 3}, {"set a 1;put a 1;keep a 1", 2}, {"set a 1;drop a;keep a 1", 2}, {"set a 1;set b a;keep b 1 a=1;lose a", 3},
	} {
		texts := strings.Split(c.texts, ";")
		wrote(t, open(t, sealed(texts...)), texts[:c.good]...)
	}
	var full []string
	for i := range api.MaxKeys {
		full = append(full, "put n"+strconv.Itoa(i)+" 1")
	}
	for _, more := range []string{"put x 1", "set x 1"} {
		wrote(t, open(t, sealed(append(full, more, "drop n1")...)), full...)
		opened(t, append(full, "drop n1", more)...)
	}
	opened(t, append(full, "put n1 2", "set n2 n1", "keep n2 2 n1=2")...)
}

// TestCutOff: P8 and P9: wherever a journal is cut off, or a byte of it is another, the whole lines ahead of that are done, and no more.
func TestCutOff(t *testing.T) {
	l := New()
	put(t, l, "s", "0")
	set(t, l, "x", "if s then y else ' = '")
	set(t, l, "y", "{x,try([-1],1/0)}")
	l.Ask("y")
	put(t, l, "s", "1")
	l.Ask("x")
	set(t, l, "x", "'a'")
	l.Ask("y")
	l.Forget("x")
	drop(t, l, "s")
	journal := l.Journal()
	var whole int
	for i := range len(journal) + 1 {
		cut := open(t, journal[:i])
		if i > 0 && journal[i-1] == '\n' {
			whole = i
		}
		if cut.Journal() != journal[:whole] {
			t.Errorf("P8: cut off at %d: Journal() = %q", i, cut.Journal())
		}
		if i == len(journal) {
			break
		}
		for bit := range 8 {
			other := []byte(journal)
			other[i] ^= 1 << bit
			if got := open(t, string(other)).Journal(); got != journal[:whole] {
				t.Errorf("P8: another byte at %d: Journal() = %q", i, got)
			}
		}
	}
}

// TestBelieved: P8 and P6: what stands in a keep is believed, whatever a run would keep.
func TestBelieved(t *testing.T) {
	l := opened(t, "set a 1+1", "keep a 'no'", "set b a", "keep b 5 a='no' k-7=none zz=none")
	asked(t, l, "a", "'no'")
	asked(t, l, "b", "5")
	kept(t, l, "b", "5 a='no' k-7=none zz=none")
	put(t, l, "zz", "{0}")
	asked(t, l, "b", "'no'", "b zz none {0}")
	kept(t, l, "b", "'no' a='no'")
	set(t, l, "a", "1+1")
	asked(t, l, "b", "2", "a", "b a 'no' 2")
	// broken by what it is not, which a try holds up or does not
	l = opened(t, "set a 1", "keep a spent", "set b try(a,2)", "set c 1", "keep c large", "set d try(c,3)", "set e 4", "keep e nought v=kind")
	asked(t, l, "b", "spent", "b")
	asked(t, l, "d", "3", "d")
	asked(t, l, "c", "large")
	asked(t, l, "e", "4", "e v kind none")
	// a need that is no name has nothing, whatever is kept of it
	l = opened(t, "set a [5-8]", "keep a 9 k-3=9")
	asked(t, l, "a", "none", "a k-3 9 none")
	// the last keep of a key holds
	l = opened(t, "set a 1", "keep a 2 b=1", "keep a 3", "keep a none c=none")
	kept(t, l, "a", "none c=none")
	asked(t, l, "a", "none")
}

// TestBelievedRound: P8 and P6: keeps by hand may meet a ring that the rules do not have, or meet another one first; it is told of round alone.
func TestBelievedRound(t *testing.T) {
	l := opened(t, "set x w", "set y x", "set w x", "keep x 5 y=1")
	broken(t, l, "x", api.ErrRound, "x", "y")
	ran(t, l, "y", "x y 1 round", "w")
	wrote(t, l, "set x w", "set y x", "set w x", "keep x 5 y=1", "lose x")
	l = opened(t, "set x 7", "set y x", "keep x 5 y=1")
	asked(t, l, "x", "7", "y", "x y 1 round")
	kept(t, l, "x", "7")
	notKept(t, l, "y")
	l = opened(t, "set x 7", "put y 1", "keep x 5 y=1")
	asked(t, l, "x", "5")
	// a key that is kept as its own need
	l = opened(t, "set x 7", "keep x 5 x=5")
	asked(t, l, "x", "7", "x x 5 round")
	wrote(t, l, "set x 7", "keep x 5 x=5", "keep x 7")
	l = opened(t, "set x 7", "set y 8", "keep x 5 y=5", "keep y 5 x=5")
	asked(t, l, "x", "7", "y x 5 round", "x y 5 8")
	asked(t, l, "y", "8")
	// a run needs what was already broken by round in this Ask
	l = opened(t, "set x try(y,1)", "set y x", "keep x 5 z=1 y=5", "put z 1")
	broken(t, l, "x", api.ErrRound, "x", "y")
	ran(t, l, "y", "x y 5 round")
}

// TestManyNeeds: P8 and P1: a keep of more needs than a run could have is read and believed, and the Ask ends soon.
func TestManyNeeds(t *testing.T) {
	var b strings.Builder
	b.WriteString("keep r 1")
	for i := 0; b.Len() < api.MaxJournal-100; i++ {
		b.WriteString(" k" + strconv.Itoa(-i-1) + "=none")
	}
	l := opened(t, "set r 2", b.String())
	asked(t, l, "r", "1")
	_, needs, _ := l.Kept("r")
	if len(needs) < 10000 {
		t.Errorf("P8: %d needs are kept", len(needs))
	}
	wrote(t, open(t, sealed("set r 2", b.String()+" k-1=none")), "set r 2")
}

// TestOpenSideBySide: P2: larders out of one journal, and the one that wrote it, know nothing of one another.
func TestOpenSideBySide(t *testing.T) {
	l := New()
	put(t, l, "a", "1")
	set(t, l, "b", "a+1")
	is(t, l, "b", "2")
	one, other := open(t, l.Journal()), open(t, l.Journal())
	put(t, one, "a", "5")
	drop(t, other, "b")
	asked(t, one, "b", "6", "b a 1 5")
	asked(t, other, "b", "none")
	asked(t, l, "b", "2")
	one.Pack()
	wrote(t, one, "put a 5", "set b a+1", "keep b 6 a=5")
	wrote(t, other, "put a 1", "set b a+1", "keep b 2 a=1", "drop b")
	wrote(t, l, "put a 1", "set b a+1", "keep b 2 a=1")
}
