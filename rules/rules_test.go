package rules

import (
	"math/rand"
	"slices"
	"sort"
	"strings"
	"testing"

	"larder/api"
)

func TestIsName(t *testing.T) {
	for _, text := range []string{"a", "z", "k0", "a1b2", "eighteig", "z9999999", "iff", "its", "sums", "i", "i2"} {
		if !IsName(text) {
			t.Errorf("%q is a name", text)
		}
	}
	terms := "if then else it try min max size at each some sum word"
	for _, text := range append(strings.Fields(terms), "", " ", "ninenines", "1", "1a", "A", "aA", "a b", " a", "a ", "a\n", "a_", "k-1", "a'", "'a'", "-a", "\xe4", "ä", strings.Repeat("a", 100000)) {
		if IsName(text) {
			t.Errorf("%q is no name", text)
		}
	}
}

// drawn are the tokens that a rule is spoilt with.
var drawn = []string{
	"1", "'a'", "a", "it", "-", "(", ")", "[", "]", "{", "}", ",", "+", "*", "/", "<", "=",
	"if", "then", "else", "size", "sum", "word", "min", "max", "try", "at", "each", "some", "05", "?", "ninenines",
}

// draw draws the tokens of a part by the grammar.
func draw(r *rand.Rand, part string, it bool) []string {
	if tok, ok := strings.CutPrefix(part, "`"); ok {
		return []string{tok}
	}
	if part == "rule+" {
		part, it = "rule", true
	}
	if part == "factor" && it && r.Intn(3) == 0 {
		return []string{"it"}
	}
	all := ways(part)
	way := all[r.Intn(len(all))]
	if r.Intn(3) > 0 { // else hardly a rule would come to an end
		way = all[0]
	}
	var toks []string
	for _, inner := range way {
		toks = append(toks, draw(r, inner, it)...)
	}
	return toks
}

// spoil leaves out, puts in or puts in place of another one a token, here and there.
func spoil(r *rand.Rand, toks []string) []string {
	at := r.Intn(len(toks))
	behind := at + r.Intn(2)
	var in []string
	if r.Intn(3) > 0 {
		in = append(in, drawn[r.Intn(len(drawn))])
	}
	return slices.Concat(toks[:at], in, toks[behind:])
}

// TestFormByGrammar holds Parse against the grammar, written down a second time in another way: a text is refused at the first token with which no rule begins that far.
func TestFormByGrammar(t *testing.T) {
	r := rand.New(rand.NewSource(1))
	rules, others := 0, 0
	for rules+others < 3000 {
		toks := draw(r, "rule", false)
		if len(toks) > 24 {
			continue
		}
		if r.Intn(4) > 0 {
			toks = spoil(r, toks)
		}
		text, at := "", []int{}
		for _, tok := range toks {
			text += strings.Repeat(" ", r.Intn(2))
			at = append(at, len(text))
			text += tok + " "
		}
		code, place := verdict(toks, at, len(text))
		if _, c, p := Parse(text); c != code || p != place {
			t.Fatalf("P3: Parse(%q) = %d, %d, want %d, %d", text, c, p, code, place)
		}
		if code == api.OK {
			rules++
		} else {
			others++
		}
	}
	if rules < 500 || others < 500 {
		t.Errorf("too few of a sort: %d rules, %d that are none", rules, others)
	}
}

// grammar finds out by trying all splits of its tokens; open asks whether those from i on may begin such a part.
type grammar struct {
	toks  []string
	known map[span]bool
}

type span struct {
	part string
	i, j int
	it   bool
}

func over(toks []string) *grammar { return &grammar{toks, map[span]bool{}} }

func begins(toks []string) bool { return over(toks).open("rule", 0, false) }

func verdict(toks []string, at []int, size int) (api.Errno, int) {
	first := sort.Search(len(toks), func(n int) bool { return !begins(toks[:n+1]) })
	if first < len(toks) {
		return api.ErrForm, at[first]
	}
	if !over(toks).is("rule", 0, len(toks), false) {
		return api.ErrForm, size
	}
	return api.OK, 0
}

// ways: the rows of parts, and of tokens (behind a `), that a part may be. A "rule+" may have it; all others may, if what they stand in may.
func ways(part string) [][]string {
	switch part {
	case "rule":
		return [][]string{{"sum"}, {"sum", "`<", "sum"}, {"sum", "`=", "sum"}}
	case "sum":
		return [][]string{{"term"}, {"term", "`+", "sum"}, {"term", "`-", "sum"}}
	case "term":
		return [][]string{{"factor"}, {"factor", "`*", "term"}, {"factor", "`/", "term"}}
	case "rules":
		return [][]string{{"rule"}, {"rule", "`,", "rules"}}
	}
	all := [][]string{{"`1"}, {"`0"}, {"`'a'"}, {"`''"}, {"`a"}, {"`-", "factor"}, {"`(", "rule", "`)"}, {"`[", "rule", "`]"}, {"`{", "`}"}, {"`{", "rules", "`}"}, {"`if", "rule", "`then", "rule", "`else", "factor"}}
	for _, one := range []string{"`size", "`sum", "`word"} {
		all = append(all, []string{one, "`(", "rule", "`)"})
	}
	for _, two := range []string{"`min", "`max", "`try", "`at"} {
		all = append(all, []string{two, "`(", "rule", "`,", "rule", "`)"})
	}
	return append(all, []string{"`each", "`(", "rule", "`,", "rule+", "`)"}, []string{"`some", "`(", "rule", "`,", "rule+", "`)"})
}

func (g *grammar) is(part string, i, j int, it bool) bool {
	return g.once(span{part, i, j, it}, func() bool { return g.find(part, i, j, it) })
}

// once spares trying the same splits again and again.
func (g *grammar) once(at span, find func() bool) bool {
	if _, ok := g.known[at]; !ok {
		g.known[at] = find()
	}
	return g.known[at]
}

func (g *grammar) find(part string, i, j int, it bool) bool {
	if tok, ok := strings.CutPrefix(part, "`"); ok {
		return j == i+1 && g.toks[i] == tok
	}
	if part == "rule+" {
		part, it = "rule", true
	}
	if i == j {
		return false
	}
	if part == "factor" && it && j == i+1 && g.toks[i] == "it" {
		return true
	}
	for _, way := range ways(part) {
		if g.row(way, i, j, it) {
			return true
		}
	}
	return false
}

func (g *grammar) row(way []string, i, j int, it bool) bool {
	if len(way) == 1 {
		return g.is(way[0], i, j, it)
	}
	for k := i + 1; k < j; k++ {
		if g.is(way[0], i, k, it) && g.row(way[1:], k, j, it) {
			return true
		}
	}
	return false
}

func (g *grammar) open(part string, i int, it bool) bool {
	return g.once(span{part, i, -1, it}, func() bool { return g.findOpen(part, i, it) })
}

func (g *grammar) findOpen(part string, i int, it bool) bool {
	if i == len(g.toks) {
		return true
	}
	if tok, ok := strings.CutPrefix(part, "`"); ok {
		return i == len(g.toks)-1 && g.toks[i] == tok
	}
	if part == "rule+" {
		part, it = "rule", true
	}
	if part == "factor" && it && i == len(g.toks)-1 && g.toks[i] == "it" {
		return true
	}
	for _, way := range ways(part) {
		if g.openRow(way, i, it) {
			return true
		}
	}
	return false
}

func (g *grammar) openRow(way []string, i int, it bool) bool {
	if g.open(way[0], i, it) {
		return true
	}
	for k := i + 1; k <= len(g.toks) && len(way) > 1; k++ {
		if g.is(way[0], i, k, it) && g.openRow(way[1:], k, it) {
			return true
		}
	}
	return false
}

func TestLongAndDeep(t *testing.T) {
	for _, c := range []struct {
		text string
		code api.Errno
		at   int
	}{
		{strings.Repeat(" ", 199) + "a", api.OK, 0}, {strings.Repeat(" ", 200), api.ErrForm, 200}, {strings.Repeat(" ", 200) + "a", api.ErrLong, 0}, {strings.Repeat("?", 201), api.ErrLong, 0}, {strings.Repeat("(", 1000000), api.ErrLong, 0},
		{strings.Repeat("(", 19) + "a" + strings.Repeat(")", 19), api.OK, 0}, {strings.Repeat("(", 20) + "a" + strings.Repeat(")", 20), api.ErrDeep, 20},
		{strings.Repeat("{", 20) + strings.Repeat("}", 20), api.OK, 0}, {strings.Repeat("{", 21) + strings.Repeat("}", 21), api.ErrDeep, 20},
		{strings.Repeat("-", 20) + " a", api.ErrDeep, 21}, {strings.Repeat("-", 20) + " ", api.ErrForm, 21}, {strings.Repeat("-", 20) + "*", api.ErrForm, 20}, {strings.Repeat("-", 20) + "it", api.ErrForm, 20}, {strings.Repeat("-", 20) + "then", api.ErrForm, 20}, {strings.Repeat("-", 20) + "'a", api.ErrForm, 20}, {strings.Repeat("-", 20) + "ninenines", api.ErrForm, 20}, {strings.Repeat("-", 20) + "if", api.ErrDeep, 20},
		{"each(a," + strings.Repeat("-", 18) + "it)", api.OK, 0}, {"each(a," + strings.Repeat("-", 19) + "it)", api.ErrDeep, 26},
		{strings.Repeat("-", 19) + "a" + strings.Repeat("+"+strings.Repeat("-", 19)+"a", 8), api.OK, 0},
		{strings.Repeat("if 1 then 1 else ", 4) + strings.Repeat("[", 15) + "a" + strings.Repeat("]", 15), api.OK, 0}, {strings.Repeat("if 1 then 1 else ", 4) + strings.Repeat("[", 16) + "a" + strings.Repeat("]", 16), api.ErrDeep, 84},
		{strings.Repeat("if ", 19) + "a" + strings.Repeat(" then 1 else 1", 9), api.ErrForm, 19*3 + 1 + 9*14}, {strings.Repeat("if ", 20) + "a", api.ErrDeep, 60},
		{strings.Repeat("min(", 20) + "1", api.ErrDeep, 80}, {strings.Repeat("min(1,", 20) + "1", api.ErrDeep, 118}, {strings.Repeat("-", 20) + "1 ?", api.ErrDeep, 20}, {"? " + strings.Repeat("-", 20) + "1", api.ErrForm, 0},
	} {
		tree, code, at := Parse(c.text)
		if code != c.code || at != c.at || (tree != nil) != (code == api.OK) {
			t.Errorf("P3: Parse(%q) = %d, %d, want %d, %d", c.text, code, at, c.code, c.at)
		}
	}
}

func TestTree(t *testing.T) {
	for _, c := range [][2]string{
		{"1+2*3-4", "((1+(2*3))-4)"}, {"8/4/2", "((8/4)/2)"}, {"1+2<3*4", "((1+2)<(3*4))"}, {"-1*2", "(-1*2)"}, {"-(1*2)", "-<(1*2)>"}, {"--a", "--a"}, {"'+'+'('", "('+'+'(')"},
		{"if a then b else c+d", "(if a b c+d)"}, {"if a<b then c=d else if e then f else -g", "if (a<b) (c=d) if e f -g"},
		{"min(1,2)", "(1m2)"}, {"max(1,2)", "(1x2)"}, {"at(1,2)", "(1@2)"},
	} {
		tree, code, _ := Parse(c[0])
		if code != api.OK || shape(tree) != c[1] {
			t.Errorf("Parse(%q) = %d, %s, want %s", c[0], code, shape(tree), c[1])
		}
	}
}

func shape(n *Node) string {
	switch n.Kind {
	case Literal:
		return n.Is.Written()
	case Name:
		return n.Name
	case Operator, Both:
		return "(" + shape(n.Parts[0]) + string(n.Op) + shape(n.Parts[1]) + ")"
	case Minus:
		return "-" + shape(n.Parts[0])
	case Group:
		return "<" + shape(n.Parts[0]) + ">"
	case If:
		return "if " + shape(n.Parts[0]) + " " + shape(n.Parts[1]) + " " + shape(n.Parts[2])
	}
	return "?"
}
