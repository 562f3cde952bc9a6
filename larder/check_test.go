package larder

import (
	"strings"
	"testing"

	"larder/api"
)

// TestCheck: P3: the document's examples, each part of a rule, and each way to be none.
func TestCheck(t *testing.T) {
	rules := []string{
		"0", "9223372036854775807", "''", "'~ !'", "a", "a2345678", "-a", "- - a", "(a)", "[a]", "{}", "{a}", "{a,{}, 'b' }", "a=b", "a<b",
		"a+b-c*d/e", "(a<b)<c", "if a<b then a=b else -c", "if a then b else c*d<e", "size(a<b)", "sum({})", "word (1)", "min(a,b)", "max( a , b )", "try(a<b,c)", "at(a,b)",
		"each(a,it)", "some(a,it<it)", "each(a,each(it,it))", "each(a,if it then it else it)", "each(each(a,it),some(it,1))",
		"'" + strings.Repeat(" ", api.MaxWord) + "'", strings.Repeat(" ", api.MaxRule-1) + "1", "itit", "then1", "minmax", strings.Repeat("-", api.MaxDeep-1) + "1",
	}
	for _, rule := range rules {
		if code, at := Check(rule); code != api.OK || at != 0 {
			t.Errorf("P3: Check(%q) = %d, %d, want OK", rule, code, at)
		}
	}
	for _, c := range []struct {
		rule string
		at   int
	}{
		{"a+", 2}, {"a b", 2}, {"then", 0}, {"05", 0}, {"abcdefghi", 0}, {"it", 0}, {"min(1)", 5}, {"each(it,1)", 5}, {"'ab", 0}, {"{1,}", 3},
		{"", 0}, {" ", 1}, {"9223372036854775808", 0}, {"1+9223372036854775808", 2}, {"1+00", 2}, {"a+'b", 2}, {"a+b'", 3}, {"'a''b'", 3}, {"'\n'", 0}, {"'" + strings.Repeat("x", api.MaxWord+1) + "'", 0}, {"a\tb", 1}, {"a\x00", 1}, {"aB", 1}, {"1a", 1}, {"a;", 1},
		{"a<b=c", 3}, {"a<<b", 2}, {"a+*b", 2}, {"a**b", 2}, {"+a", 0}, {"a-", 2}, {"-", 1}, {"(a", 2}, {"(a]", 2}, {"a)", 1}, {"[a", 2}, {"[]", 1}, {"[a,b]", 2}, {"{a b}", 3}, {"{,", 1}, {"{a", 2}, {"}", 0}, {",", 0},
		{"if", 2}, {"if a", 4}, {"if a else", 5}, {"if a then b", 11}, {"if a then b then", 12}, {"if a then b else", 16}, {"if a then b else +", 17}, {"else", 0},
		{"size", 4}, {"size a", 5}, {"size(", 5}, {"size()", 5}, {"size(a,b)", 6}, {"sum[a]", 3}, {"word(a", 6}, {"min(a,b,c)", 7}, {"max(a", 5}, {"try(a)", 5}, {"at(a,)", 5}, {"try", 3},
		{"each(a)", 6}, {"each(a,it)*it", 11}, {"some(it,it)", 5}, {"some(a,some(it,it)+it)+it", 23}, {"each(a,it it)", 10}, {"each(a,it", 9},
	} {
		if code, at := Check(c.rule); code != api.ErrForm || at != c.at {
			t.Errorf("P3: Check(%q) = %d, %d, want ErrForm, %d", c.rule, code, at, c.at)
		}
	}
}

// TestCheckLimits: P3: too long ahead of all else; too deep, if that comes first.
func TestCheckLimits(t *testing.T) {
	down := strings.Repeat("[", api.MaxDeep)
	for _, c := range []struct {
		rule string
		code api.Errno
		at   int
	}{
		{strings.Repeat("1+", 99) + "12", api.OK, 0}, {strings.Repeat("1+", 99) + "123", api.ErrLong, 0}, {strings.Repeat(" ", api.MaxRule+1), api.ErrLong, 0}, {down + "1" + strings.Repeat(" ", api.MaxRule), api.ErrLong, 0},
		{down + "1", api.ErrDeep, api.MaxDeep}, {down + " 1 ?", api.ErrDeep, api.MaxDeep + 1}, {down + "?", api.ErrForm, api.MaxDeep}, {down, api.ErrForm, api.MaxDeep}, {down + "]", api.ErrForm, api.MaxDeep}, {"1 1" + down + "1", api.ErrForm, 2},
		{"{1,{2,{3}}}+" + down + "1", api.ErrDeep, 12 + api.MaxDeep},
	} {
		if code, at := Check(c.rule); code != c.code || at != c.at {
			t.Errorf("P3: Check(%q) = %d, %d, want %d, %d", c.rule, code, at, c.code, c.at)
		}
	}
}
