package runs

import (
	"slices"
	"strings"
	"testing"

	"larder/api"
	"larder/rules"
	"larder/values"
)

func of(t *testing.T, text string) *Run {
	t.Helper()
	tree, code, at := rules.Parse(text)
	if code != api.OK {
		t.Fatalf("%q is no rule: %d, %d", text, code, at)
	}
	return Of(tree)
}

// TestNeeds: which keys a run hands over, in what order, hangs on what it is told of those ahead.
func TestNeeds(t *testing.T) {
	has := map[string]values.Worth{
		"a": {Is: values.Number(2)}, "b": {Is: values.Number(0)}, "w": {Is: values.Word("ab")}, "ab": {Is: values.Number(9)}, "k2": {Is: values.Number(7)},
		"n": {Code: api.ErrNought}, "s": {Code: api.ErrSpent}, "r": {Code: api.ErrRound}, "l": {Code: api.ErrLarge}, "d": {Code: api.ErrKind},
	}
	for _, c := range []struct {
		rule  string
		needs string
		code  api.Errno
	}{
		{"1+2", "", api.OK}, {"a+b", "a b", api.OK}, {"b+a*a", "b a a", api.OK}, {"if a then b else w", "a b", api.OK}, {"if b then a else w", "b w", api.OK},
		{"[a]", "a k2", api.OK}, {"[w]", "w ab", api.OK}, {"[-a]", "a k-2", api.ErrNone}, {"[w+'c']", "w abc", api.ErrNone}, {"[a*100000000]", "a k200000000", api.ErrNone}, {"[{a}]", "a", api.ErrKind}, {"['A'+w]", "w", api.ErrKind},
		{"n+a", "n", api.ErrNought}, {"a/b+w", "a b", api.ErrNought}, {"a+w+b", "a w", api.ErrKind}, {"try(n,a)", "n a", api.OK}, {"try(a,n)", "a", api.OK}, {"try(q,a)", "q a", api.OK}, {"try(l,a)", "l a", api.OK}, {"try(d,a)", "d a", api.OK},
		{"try(s,a)", "s", api.ErrSpent}, {"try(r,a)", "r", api.ErrRound}, {"try(try(s,a),b)", "s", api.ErrSpent}, {"try(n,q)", "n q", api.ErrNone},
		{"each({'a','b'},[it])", "a b", api.OK}, {"some({1,0},try([it],a))", "k1 a k0 a", api.OK}, {"some({1,2},w)", "w", api.ErrKind}, {"each(a,b)", "a", api.ErrKind}, {"min(w,b)", "w b", api.ErrKind}, {"at(a,b)", "a b", api.ErrKind}, {"w<b", "w b", api.ErrKind},
		{"{1,2,3,4,5,6,7,8,9,10,11,12,a,b}", "a b", api.ErrLarge}, {"each({a,b},{{{it}}})", "a b", api.ErrLarge},
	} {
		r := of(t, c.rule)
		var needs []string
		for key := range r.Needs {
			needs = append(needs, key)
			worth, ok := has[key]
			if !ok {
				worth.Code = api.ErrNone
			}
			r.Tell(worth)
		}
		if got := strings.Join(needs, " "); got != c.needs || r.Worth().Code != c.code {
			t.Errorf("%q needs %q and is broken by %d, want %q and %d", c.rule, got, r.Worth().Code, c.needs, c.code)
		}
	}
}

// TestLeft: who no longer ranges over a run is asked for nothing any more, in whatever try that happens.
func TestLeft(t *testing.T) {
	r := of(t, "try(a,1)+try(b,c)+try(d,e)")
	var needs []string
	for key := range r.Needs {
		needs = append(needs, key)
		r.Tell(values.Worth{Is: values.Number(1)})
		if key == "b" {
			break
		}
	}
	if !slices.Equal(needs, []string{"a", "b"}) || r.Worth().Code != api.ErrSpent {
		t.Errorf("left at b: needs %v, broken by %d", needs, r.Worth().Code)
	}
}

// TestFuel: each FACTOR takes one, and only those that are worked out.
func TestFuel(t *testing.T) {
	for _, c := range []struct {
		rule string
		fuel int
	}{
		{"1", 1}, {"1+1", 2}, {"1<1", 2}, {"-1", 2}, {"(1)", 2}, {"{}", 1}, {"{1,2}", 3}, {"if 1 then 2 else 3", 3}, {"if 0 then 2 else -3", 4}, {"size('')", 2}, {"min(1,2)", 3},
		{"try(1,2)", 2}, {"try(1/0,2)", 4}, {"each({},1)", 2}, {"each({1,2},it)", 6}, {"some({1,2},it+it)", 8}, {"[1]", 2}, {"a", 1},
	} {
		r := of(t, c.rule)
		for range r.Needs {
			r.Tell(values.Worth{Is: values.Number(1)})
		}
		if used := api.MaxFuel - r.fuel; used != c.fuel || r.Worth().Code != api.OK {
			t.Errorf("%q takes %d and is broken by %d, want %d", c.rule, used, r.Worth().Code, c.fuel)
		}
	}
}

// TestIsKey: P8: a need's key is a name, or k and a number as it is written.
func TestIsKey(t *testing.T) {
	for _, text := range []string{"a", "k", "z9", "abcdefgh", "ifs", "k0", "k5", "k007", "k1234567", "k12345678", "k-1", "k-1234567", "k9223372036854775807", "k-9223372036854775808"} {
		if !IsKey(text) {
			t.Errorf("P8: %q may be needed", text)
		}
	}
	for _, text := range []string{"", " ", "A", "5", "-5", "if", "it", "word", "abcdefghi", "a-1", "k-", "k-0", "k--1", "k-01", "k01234567", "k+1", "k 1", "k1 ", " k1", "K1", "kk-1", "k9223372036854775808", "k-9223372036854775809", "k'a'", "k1.0", "'a'", "a b", "a=", "k-1\n"} {
		if IsKey(text) {
			t.Errorf("P8: %q may not be needed", text)
		}
	}
	for n := range values.Number(300) {
		for _, n := range []values.Number{n - 150, n * n * n * 1234567, n << 56} {
			if !IsKey(keyOf(n)) {
				t.Errorf("P8: [%d] is %q", n, keyOf(n))
			}
		}
	}
}
