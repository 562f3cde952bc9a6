package larder

import (
	"slices"
	"strconv"
	"testing"

	"larder/api"
)

// TestExampleOne: P6: the document's example 1.
func TestExampleOne(t *testing.T) {
	l := New()
	put(t, l, "a", "2")
	set(t, l, "b", "a*a+1")
	set(t, l, "c", "if b<9 then [a] else 0")
	put(t, l, "k2", "7")
	asked(t, l, "c", "7", "c", "b")
	kept(t, l, "c", "7 b=5 a=2 k2=7")
	kept(t, l, "b", "5 a=2")
	asked(t, l, "c", "7")
	put(t, l, "a", "-2")
	asked(t, l, "c", "none", "b a 2 -2", "c a 2 -2")
	kept(t, l, "c", "none b=5 a=-2 k-2=none")
}

// TestExampleTwo: P6: the document's example 2.
func TestExampleTwo(t *testing.T) {
	l := New()
	set(t, l, "x", "y+1")
	set(t, l, "y", "z")
	set(t, l, "z", "x")
	broken(t, l, "x", api.ErrRound, "x", "y", "z")
	ran(t, l, "x", "y", "z")
	notKept(t, l, "x", "y", "z")
	broken(t, l, "y", api.ErrRound, "y", "z", "x")
	ran(t, l, "y", "z", "x")
}

// TestWithoutNeed: P6: a rule is run again if a need has changed, and not if it was only given anew, or something else was changed.
func TestWithoutNeed(t *testing.T) {
	l := New()
	set(t, l, "low", "if n<0 then 'low' else 'high'")
	set(t, l, "mid", "low+'er'")
	set(t, l, "top", "mid+word(size(low))")
	put(t, l, "n", "3")
	asked(t, l, "top", "'higher4'", "top", "mid", "low")
	for _, value := range []string{"3", "3"} {
		put(t, l, "n", value)
		asked(t, l, "top", "'higher4'")
	}
	put(t, l, "m", "1")
	set(t, l, "other", "top+m")
	asked(t, l, "top", "'higher4'")
	put(t, l, "n", "4")
	asked(t, l, "top", "'higher4'", "low n 3 4")
	put(t, l, "n", "-4")
	asked(t, l, "top", "'lower3'", "low n 4 -4", "mid low 'high' 'low'", "top mid 'higher' 'lower'")
	asked(t, l, "mid", "'lower'")
	drop(t, l, "n")
	asked(t, l, "low", "none", "low n -4 none")
	asked(t, l, "top", "none", "mid low 'low' none", "top mid 'lower' none")
	kept(t, l, "top", "none mid=none")
	asked(t, l, "top", "none")
	// 3 and '3', and {3}, are other values
	set(t, l, "same", "n=n")
	asked(t, l, "same", "none", "same")
	last := "none"
	for _, value := range []string{"3", "'3'", "{3}", "{'3'}", "{{3}}", "{}", "''", "{{},{1}}", "{{1},{}}", "-9223372036854775808"} {
		put(t, l, "n", value)
		asked(t, l, "same", "1", "same n "+last+" "+value)
		put(t, l, "n", value)
		asked(t, l, "same", "1")
		last = value
	}
}

// TestNeedsInOrder: P6: needs are brought up to date as long as each comes out as it is kept, and no further.
func TestNeedsInOrder(t *testing.T) {
	l := New()
	set(t, l, "pick", "if s then x else y")
	set(t, l, "x", "n+1")
	set(t, l, "y", "n-1")
	put(t, l, "n", "5")
	put(t, l, "s", "1")
	asked(t, l, "pick", "6", "pick", "x")
	kept(t, l, "pick", "6 s=1 x=6")
	put(t, l, "s", "0")
	put(t, l, "n", "7")
	asked(t, l, "pick", "6", "pick s 1 0", "y")
	kept(t, l, "pick", "6 s=0 y=6")
	kept(t, l, "x", "6 n=5")
	put(t, l, "s", "2")
	asked(t, l, "pick", "8", "pick s 0 2", "x n 5 7")
	put(t, l, "n", "8")
	asked(t, l, "pick", "9", "x n 7 8", "pick x 8 9")
	// a need that is looked at first may be the last to change: what is ahead of it is run first
	set(t, l, "all", "{y,x,s}")
	asked(t, l, "all", "{7,9,2}", "all", "y n 7 8")
	put(t, l, "n", "9")
	put(t, l, "s", "3")
	asked(t, l, "all", "{8,10,3}", "y n 8 9", "all y 7 8", "x n 8 9")
}

// TestNeedsOnce: P6: each need is kept once, in the order of the first time, by whatever way the rule came to it.
func TestNeedsOnce(t *testing.T) {
	l := New()
	put(t, l, "k1", "10")
	put(t, l, "k2", "20")
	put(t, l, "s", "1")
	set(t, l, "many", "each({2,1,2},[it])+{s,k1,[1],['s'],[s]}")
	asked(t, l, "many", "{20,10,20,1,10,10,1,10}", "many")
	kept(t, l, "many", "{20,10,20,1,10,10,1,10} k2=20 k1=10 s=1")
	set(t, l, "lost", "try([-1]+s,0)+try([123456789],0)+try(at({s},5),k2)")
	asked(t, l, "lost", "20", "lost")
	kept(t, l, "lost", "20 k-1=none k123456789=none s=1 k2=20")
	put(t, l, "k1", "0")
	asked(t, l, "lost", "20")
	set(t, l, "try1", "try(s/0+k1,many)")
	asked(t, l, "try1", "{20,0,20,1,0,0,1,0}", "try1", "many k1 10 0")
	kept(t, l, "try1", "{20,0,20,1,0,0,1,0} s=1 many={20,0,20,1,0,0,1,0}")
	// within an Ask a key is brought up to date once
	set(t, l, "twice", "many+{}=many")
	put(t, l, "s", "2")
	asked(t, l, "twice", "1", "twice", "many s 1 2")
	kept(t, l, "twice", "1 many={20,0,20,2,0,0,2,20}")
}

// TestNoNeeds: P6: a rule that needs nothing is run once.
func TestNoNeeds(t *testing.T) {
	l := New()
	set(t, l, "one", "1")
	set(t, l, "skip", "if 0 then one else 'x'")
	asked(t, l, "one", "1", "one")
	kept(t, l, "one", "1")
	asked(t, l, "one", "1")
	asked(t, l, "skip", "'x'", "skip")
	kept(t, l, "skip", "'x'")
	asked(t, l, "skip", "'x'")
}

// TestBrokenIsKept: P6 and P1: what is broken, but by round, is kept as what is not; an Ask that answers an error keeps what it worked out.
func TestBrokenIsKept(t *testing.T) {
	for _, c := range [][2]string{{"q+n", "none"}, {"n/0", "nought"}, {"n+'a'", "kind"}, {"{{{{n}}}}", "large"}, {spender + "+n", "spent"}, {"at('a',n)", "none"}} {
		l := New()
		put(t, l, "n", "1")
		set(t, l, "b", c[0])
		set(t, l, "c", "n+b")
		set(t, l, "d", "try(c,'caught')")
		asked(t, l, "c", c[1], "c", "b")
		kept(t, l, "c", c[1]+" n=1 b="+c[1])
		asked(t, l, "b", c[1])
		asked(t, l, "c", c[1])
		if c[1] == "spent" {
			asked(t, l, "d", c[1], "d")
			kept(t, l, "d", c[1]+" c="+c[1])
		} else {
			asked(t, l, "d", "'caught'", "d")
			kept(t, l, "d", "'caught' c="+c[1])
		}
		set(t, l, "b", "5")
		asked(t, l, "d", "6", "b", "c b "+c[1]+" 5", "d c "+c[1]+" 6")
		drop(t, l, "b")
		asked(t, l, "c", "none", "c b 5 none")
	}
}

// TestTakenAway: P6: Put, Set, Drop and Forget take away what is kept for the key, and for no other; what is refused takes away nothing.
func TestTakenAway(t *testing.T) {
	l := New()
	put(t, l, "a", "1")
	set(t, l, "b", "a+1")
	set(t, l, "c", "b+1")
	asked(t, l, "c", "3", "c", "b")
	for _, value := range []string{"", "01", "a+1", "{1, 2}"} {
		l.Put("b", value)
	}
	for _, rule := range []string{"", "b+", "((((((((((((((((((((1))))))))))))))))))))"} {
		l.Set("b", rule)
	}
	kept(t, l, "b", "2 a=1")
	set(t, l, "b", "a+1")
	notKept(t, l, "b", "a")
	kept(t, l, "c", "3 b=2")
	asked(t, l, "c", "3", "b")
	put(t, l, "b", "2")
	notKept(t, l, "b")
	asked(t, l, "c", "3")
	set(t, l, "b", "a+a")
	asked(t, l, "c", "3", "b")
	drop(t, l, "b")
	notKept(t, l, "b")
	kept(t, l, "c", "3 b=2")
	asked(t, l, "c", "none", "c b 2 none")
	set(t, l, "b", "a+a")
	notKept(t, l, "b")
	asked(t, l, "c", "3", "b", "c b none 2")
	forget(t, l, "b")
	notKept(t, l, "b")
	kept(t, l, "c", "3 b=2")
	asked(t, l, "c", "3", "b")
	forget(t, l, "c")
	asked(t, l, "c", "3", "c")
}

// TestKeptAndForgetRefuse: P6: ErrName ahead of ErrNone.
func TestKeptAndForgetRefuse(t *testing.T) {
	l := New()
	set(t, l, "r", "[-1]")
	put(t, l, "v", "1")
	asked(t, l, "r", "none", "r")
	for key, want := range map[string]api.Errno{"": api.ErrName, "it": api.ErrName, "R": api.ErrName, "k-1": api.ErrName, "ninenines": api.ErrName, "r ": api.ErrName, "v": api.ErrNone, "x": api.ErrNone} {
		if got, needs, code := l.Kept(key); got != (api.Worth{}) || len(needs) != 0 || code != want {
			t.Errorf("P6: Kept(%q) = %v, %v, %d, want %d", key, got, needs, code, want)
		}
		if code := l.Forget(key); code != want {
			t.Errorf("P6: Forget(%q) = %d, want %d", key, code, want)
		}
	}
	kept(t, l, "r", "none k-1=none")
	forget(t, l, "r")
	if code := l.Forget("r"); code != api.ErrNone {
		t.Errorf("P6: Forget twice = %d", code)
	}
}

// TestLastAsk: P6: Ran is of the last Ask that was not refused, and of nothing else.
func TestLastAsk(t *testing.T) {
	l := New()
	ran(t, l)
	broken(t, l, "A", api.ErrName)
	ran(t, l)
	put(t, l, "a", "1")
	set(t, l, "b", "a")
	asked(t, l, "b", "1", "b")
	broken(t, l, "if", api.ErrName)
	ran(t, l, "b")
	put(t, l, "a", "2")
	set(t, l, "c", "b")
	forget(t, l, "b")
	drop(t, l, "b")
	l.Kept("b")
	Check("b")
	ran(t, l, "b")
	asked(t, l, "a", "2")
	asked(t, l, "c", "none", "c")
	asked(t, l, "q", "none")
}

// TestKeptRound: P6: what round does to what is kept, and a ring that is met by what is kept.
func TestKeptRound(t *testing.T) {
	l := New()
	set(t, l, "x", "y+1")
	set(t, l, "y", "if s then z else 2")
	set(t, l, "z", "x")
	set(t, l, "out", "try(z,0)")
	put(t, l, "s", "0")
	asked(t, l, "out", "3", "out", "z", "x", "y")
	put(t, l, "s", "1")
	broken(t, l, "out", api.ErrRound, "z", "x", "y")
	ran(t, l, "y s 0 1", "x y 2 round", "z x 3 round", "out z 3 round")
	notKept(t, l, "out", "x", "y", "z")
	broken(t, l, "out", api.ErrRound, "z", "x", "y")
	ran(t, l, "out", "z", "x", "y")
	put(t, l, "s", "0")
	asked(t, l, "x", "3", "x", "y")
	asked(t, l, "out", "3", "out", "z")
	put(t, l, "s", "1")
	broken(t, l, "x", api.ErrRound, "x", "y", "z")
	ran(t, l, "y s 0 1", "z x 3 round", "x y 2 round")
	kept(t, l, "out", "3 z=3")
	// what is broken by round is not kept as a need of another run either, and a key that is not in it stays
	set(t, l, "calm", "s*2")
	set(t, l, "both", "calm+x")
	broken(t, l, "both", api.ErrRound, "x", "y", "z")
	ran(t, l, "both", "calm", "x", "y", "z")
	notKept(t, l, "both")
	kept(t, l, "calm", "2 s=1")
	broken(t, l, "both", api.ErrRound, "x", "y", "z")
	ran(t, l, "both", "x", "y", "z")
}

// TestFirstRing: P6: of two rings the one that was met first, also by a run that follows on what was kept.
func TestFirstRing(t *testing.T) {
	l := New()
	set(t, l, "a", "if s then b+c else 0")
	set(t, l, "b", "if s then try(b,1) else 0")
	set(t, l, "c", "a")
	set(t, l, "d", "a+b+c")
	put(t, l, "s", "0")
	asked(t, l, "d", "0", "d", "a", "b", "c")
	put(t, l, "s", "1")
	broken(t, l, "d", api.ErrRound, "b")
	ran(t, l, "a s 0 1", "b s 0 1", "d a 0 round")
	put(t, l, "b", "1")
	broken(t, l, "d", api.ErrRound, "a", "c")
	ran(t, l, "d", "a", "c a 0 round")
	put(t, l, "s", "0")
	is(t, l, "d", "1")
}

// TestManyKeys: P6 in a full larder: a change runs what hangs on it, once each.
func TestManyKeys(t *testing.T) {
	l := New()
	put(t, l, "n0", "1")
	for i := 1; i < api.MaxKeys; i++ {
		last := "n" + strconv.Itoa(i-1)
		set(t, l, "n"+strconv.Itoa(i), last+"+"+last+"*n0")
	}
	top := "n" + strconv.Itoa(api.MaxKeys-1)
	is(t, l, top, strconv.Itoa(1<<(api.MaxKeys-1)))
	if n := len(l.Ran()); n != api.MaxKeys-1 {
		t.Errorf("P6: %d rules were run at first", n)
	}
	is(t, l, top, strconv.Itoa(1<<(api.MaxKeys-1)))
	ran(t, l)
	put(t, l, "n0", "0")
	is(t, l, top, "0")
	causes := l.Ran()
	if len(causes) != api.MaxKeys-1 {
		t.Errorf("P6: %d rules were run behind a change", len(causes))
	}
	for i, c := range causes {
		if c.Key != "n"+strconv.Itoa(i+1) || c.Need != "n"+strconv.Itoa(i) {
			t.Errorf("P6: run %d is %v", i, c)
		}
	}
}

// TestToldListsAreTheCallers: P2: what Ran and Kept hand out may be changed and added to, and nothing comes of it.
func TestToldListsAreTheCallers(t *testing.T) {
	l := New()
	put(t, l, "a", "1")
	set(t, l, "b", "a+1")
	set(t, l, "c", "{a,b,[a]}")
	set(t, l, "d", "c")
	asked(t, l, "d", "none", "d", "c", "b")
	causes, more := l.Ran(), l.Ran()
	_, needs, _ := l.Kept("c")
	_, again, _ := l.Kept("c")
	for i := range causes[:cap(causes)] {
		causes[:cap(causes)][i] = api.Cause{Key: "changed"}
	}
	for i := range needs[:cap(needs)] {
		needs[:cap(needs)][i] = api.Need{Key: "changed"}
	}
	if !slices.Equal(more, l.Ran()) || again[0].Key != "a" {
		t.Errorf("P2: the lists of two answers share memory: %v, %v", more, again)
	}
	ran(t, l, "d", "c", "b")
	kept(t, l, "c", "none a=1 b=2 k1=none")
	asked(t, l, "d", "none")
	if more[0].Key != "d" {
		t.Errorf("P2: a list that is the caller's was changed: %v", more)
	}
}
