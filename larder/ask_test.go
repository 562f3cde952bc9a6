package larder

import (
	"strings"
	"testing"

	"larder/api"
)

// pantry is a larder with a key of each kind, and of each way to be broken.
func pantry(t *testing.T) *Larder {
	l := New()
	for _, c := range [][2]string{{"a", "7"}, {"b", "-2"}, {"o", "0"}, {"w", "'word'"}, {"l", "{3,1,2}"}, {"m", "{1,'x',{}}"}, {"e", "{}"}, {"least", "-9223372036854775808"}, {"k0", "'nil'"}, {"k7", "70"}, {"ab", "'cd'"}} {
		put(t, l, c[0], c[1])
	}
	for _, c := range [][2]string{{"bnone", "q"}, {"bnought", "1/0"}, {"bkind", "1+'a'"}, {"blarge", "{{{{}}}}"}, {"bspent", spender}, {"bround", "bround"}} {
		set(t, l, c[0], c[1])
	}
	return l
}

// spender would work out more than 400 FACTORs.
const spender = "each({1,2,3,4,5,6,7,8,9,10,11,12},each({1,2,3,4,5,6,7,8,9,10,11,12},it+it))"

// TestWorth: P5: what each part of a rule is worth.
func TestWorth(t *testing.T) {
	l := pantry(t)
	for _, c := range [][2]string{
		{"0", "0"}, {"'a b'", "'a b'"}, {"{ 1, 'x',{ } }", "{1,'x',{}}"}, {"a", "7"}, {"(a)", "7"}, {"-a", "-7"}, {"--a", "7"}, {"-least", "-9223372036854775808"},
		{"a+b*2", "3"}, {"(a+b)*2", "10"}, {"a-b-1", "8"}, {"a/b", "-3"}, {"-a/-b", "-3"}, {"-7/2*2", "-6"}, {"9223372036854775807+1", "-9223372036854775808"}, {"least-1", "9223372036854775807"}, {"least*b", "0"}, {"least/-1", "-9223372036854775808"}, {"4294967296*4294967296", "0"},
		{"'ab'+w", "'abword'"}, {"''+''", "''"}, {"l+e+m", "{3,1,2,1,'x',{}}"}, {"min(a,b)", "-2"}, {"max(a,b)", "7"}, {"min(least,9223372036854775807)", "-9223372036854775808"},
		{"b<a", "1"}, {"a<a", "0"}, {"'a'<'ab'", "1"}, {"'ab'<'a'", "0"}, {"'Z'<'a'", "1"}, {"''<''", "0"}, {"a=7", "1"}, {"a='7'", "0"}, {"1={1}", "0"}, {"e={}", "1"}, {"''={}", "0"}, {"m={1,'x',{}}", "1"}, {"l={3,2,1}", "0"},
		{"if a then 'y' else 'n'", "'y'"}, {"if b then 'y' else 'n'", "'y'"}, {"if o then 'y' else 'n'", "'n'"}, {"if a then 1 else (1/0)", "1"}, {"if o then q else 2", "2"}, {"if 1 then 2 else 3+4", "6"}, {"if 1<0 then 2 else -3", "-3"},
		{"size(w)", "4"}, {"size('')", "0"}, {"size(m)", "3"}, {"size(e)", "0"}, {"sum(l)", "6"}, {"sum(e)", "0"}, {"sum({least,-1})", "9223372036854775807"}, {"word(b)", "'-2'"}, {"word(w)", "'word'"}, {"word(least)", "'-9223372036854775808'"}, {"word(12)+'x'", "'12x'"},
		{"at(w,0)", "'w'"}, {"at(w,3)", "'d'"}, {"at(m,2)", "{}"}, {"at(l,0)", "3"}, {"at('abc',1)", "'b'"},
		{"[a]", "70"}, {"[2+5]", "70"}, {"[o]", "'nil'"}, {"['a'+'b']", "'cd'"}, {"['k7']", "70"}, {"[at({'a','b'},1)]", "-2"},
		{"each({1,2,3},it*it)", "{1,4,9}"}, {"each(e,q)", "{}"}, {"each(l,a+it)", "{10,8,9}"}, {"each(l,l)", "{{3,1,2},{3,1,2},{3,1,2}}"}, {"some(l,1<it)", "{3,2}"}, {"some(m,1)", "{1,'x',{}}"}, {"some(l,-1)", "{3,1,2}"}, {"some(l,0)", "{}"}, {"some(e,'x')", "{}"}, {"sum(some({5,-1,7},0<it))", "12"},
		{"each({{1,2},{3}},sum(each(it,it+1)))", "{5,4}"}, {"each({1,2},each({3},it)+{it})", "{{3,1},{3,2}}"}, {"each({1,2},some({it},it-1))", "{{},{2}}"}, {"each({'a','b'},[it])", "{7,-2}"}, {"each({1,0},try(each({9},1/0),it))", "{1,0}"},
		{"try(1/0,5)", "5"}, {"try(q,5)", "5"}, {"try(1+'a',5)", "5"}, {"try({{{{}}}},5)", "5"}, {"try(4,q)", "4"}, {"try(try(1/0,q),2)", "2"}, {"1+try(q,2)*3", "7"}, {"try(bnone,1)+try(bnought,2)+try(bkind,3)+try(blarge,4)", "10"}, {"try({1,q},{2})", "{2}"},
	} {
		set(t, l, "z", c[0])
		is(t, l, "z", c[1])
	}
}

// TestBroken: P5: by what a rule is broken: by the first thing that comes about.
func TestBroken(t *testing.T) {
	l := pantry(t)
	for code, rules := range map[api.Errno][]string{
		api.ErrNone:   {"q", "-q", "bnone", "[3]", "[b]", "[least]", "['zz']", "[12345678]", "at(w,4)", "at(w,b)", "at(e,0)", "at(l,least)", "q+1/0", "{1,q,1/0}", "{q,1,2,3,4,5,6,7,8,9,10,11,12}", "try(1/0,q)", "'a'-q", "if q then 1 else 2", "each(l,q)", "some(l,q)", "each(q,1/0)", "q=q", "at(q,1/0)", "[1/1]", "word(q)", "[['k'+word(0)]]"},
		api.ErrNought: {"1/0", "0/0", "a/o", "bnought", "1/0+q", "{1,2,3,4,5,6,7,8,9,10,11,12,1/0}", "each({1,0,'a'},1/it)", "some({1,0},1/it)", "min('a',1/0)", "'a'+1/0", "1/0/0", "[1/0]", "least/(b+2)"},
		api.ErrKind: {"1+'a'", "'a'+1", "{}+1", "1+{}", "{}+'a'", "'a'-1", "'a'*2", "'a'/0", "1/'a'", "-'a'", "-{}", "1<'a'", "'a'<1", "{}<{}", "{1}<2", "min('a','b')", "max(1,{})", "if 'a' then 1 else 2", "if {} then 1 else 2", "size(1)", "sum('a')", "sum(1)", "sum(m)", "word(e)", "at(1,0)", "at(w,'a')", "at(w,{})", "at(a,99)", "each(w,1)", "each(1,q)", "some(1,q)", "some(l,'x')", "some({1,0},if it then {} else 1/0)", "bkind",
			"['']", "['if']", "['A']", "['k-7']", "['ninenines']", "[e]", "['a b']"},
		api.ErrLarge: {"'" + strings.Repeat("x", 30) + "'+'y'", "w+w+w+w+w+w+w+w", "{1,2,3,4,5,6,7,8,9,10,11,12,13}", "l+l+l+l+{1}", "{{{{}}}}", "{{{{1}}}}", "each({1},{{{it}}})", "each({0,1},{{{1}}})+q", "blarge", "{m,{m,{m}}}"},
		api.ErrSpent: {spender, "try(" + spender + ",1)", "bspent", "try(bspent,1)", "try(try(bspent,1),2)", "bspent+q"},
	} {
		for _, rule := range rules {
			set(t, l, "z", rule)
			broken(t, l, "z", code)
		}
	}
	for _, rule := range []string{"bround", "try(bround,1)", "{bround,q}"} {
		set(t, l, "z", rule)
		broken(t, l, "z", api.ErrRound, "bround")
	}
}

// TestEdges: P5: values as large as they may be, and no larger.
func TestEdges(t *testing.T) {
	l := New()
	word, items := strings.Repeat("w", api.MaxWord), "{1,2,3,4,5,6,7,8,9,10,11,12}"
	put(t, l, "w", "'"+word[1:]+"'")
	put(t, l, "l", items)
	for _, c := range [][2]string{{"w+'w'", "'" + word + "'"}, {"l+{}", items}, {"{{{l=l}}}", "{{{1}}}"}, {"each({1},{{it}})", "{{{1}}}"}, {"{{l}}+{{l}}", "{{" + items + "},{" + items + "}}"}} {
		set(t, l, "z", c[0])
		is(t, l, "z", c[1])
	}
	for _, rule := range []string{"w+'ww'", "l+{1}", "{{{l}}}", "each({1},{{l}})", "each(l,{{{}}})"} {
		set(t, l, "z", rule)
		broken(t, l, "z", api.ErrLarge)
	}
}

// TestFuel: P5: a run works out 400 FACTORs, of its own alone, and not one more.
func TestFuel(t *testing.T) {
	const most = "sum(each(l,sum(each(l,it+it))))" // 3 + 12 * (3 + 12 * 2) = 327
	l := New()
	put(t, l, "l", "{1,2,3,4,5,6,7,8,9,10,11,12}")
	ones := func(n int) string { return strings.Repeat("+1", n) }
	for _, c := range []struct {
		rule, want string
		code       api.Errno
	}{
		{most + ones(73), "1945", 0}, {most + ones(74), "", api.ErrSpent}, {most + ones(73) + "+'a'", "", api.ErrSpent}, {most + ones(72) + "+'a'", "", api.ErrKind}, {"try(" + most + ones(72) + ",1)", "1944", 0}, {"try(" + most + ones(73) + ",1)", "", api.ErrSpent},
		{most + ones(69) + "+try(1/0,1)", "1942", 0}, {most + ones(70) + "+try(1/0,1)", "", api.ErrSpent}, {most + ones(71) + "+-1", "1942", 0}, {most + ones(72) + "+-1", "", api.ErrSpent},
	} {
		set(t, l, "z", c.rule)
		if c.code == api.OK {
			is(t, l, "z", c.want)
		} else {
			broken(t, l, "z", c.code)
		}
	}
	set(t, l, "y", most)
	set(t, l, "z", "y+"+most+ones(72))
	is(t, l, "z", "3816")
}

// TestExamples: the document's examples 1 and 2, of which Ask tells.
func TestExamples(t *testing.T) {
	l := New()
	put(t, l, "a", "2")
	set(t, l, "b", "a*a+1")
	set(t, l, "c", "if b<9 then [a] else 0")
	put(t, l, "k2", "7")
	is(t, l, "c", "7")
	is(t, l, "c", "7")
	put(t, l, "a", "-2")
	broken(t, l, "c", api.ErrNone)
	set(t, l, "x", "y+1")
	set(t, l, "y", "z")
	set(t, l, "z", "x")
	broken(t, l, "x", api.ErrRound, "x", "y", "z")
	broken(t, l, "y", api.ErrRound, "y", "z", "x")
}

// TestRound: P5: the ring begins with the key that was needed again, wherever the Ask began, and is met only if it is needed.
func TestRound(t *testing.T) {
	l := New()
	set(t, l, "x", "if s then y else 1")
	set(t, l, "y", "try(z,2)")
	set(t, l, "z", "[w]")
	put(t, l, "s", "1")
	put(t, l, "w", "'x'")
	broken(t, l, "x", api.ErrRound, "x", "y", "z")
	broken(t, l, "z", api.ErrRound, "z", "x", "y")
	set(t, l, "from", "s+try(y,3)+x")
	set(t, l, "more", "1+from")
	broken(t, l, "more", api.ErrRound, "y", "z", "x")
	put(t, l, "s", "0")
	is(t, l, "more", "3")
	put(t, l, "s", "1")
	set(t, l, "z", "z")
	broken(t, l, "x", api.ErrRound, "z")
	drop(t, l, "z")
	is(t, l, "x", "2")
	set(t, l, "k5", "[5]")
	broken(t, l, "k5", api.ErrRound, "k5")
}
