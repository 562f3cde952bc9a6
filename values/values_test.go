package values

import (
	"strings"
	"testing"

	"larder/api"
)

func TestReadAndWrite(t *testing.T) {
	full := strings.Repeat("~", api.MaxWord)
	for _, text := range []string{
		"0", "7", "-1", "9223372036854775807", "-9223372036854775808",
		"''", "' '", "'a b'", "'{,}'", "'~ !'", "'" + full + "'",
		"{}", "{1}", "{1,'a b',{}}", "{{{}}}", "{{{'}'}},{-5,''}}",
		"{" + strings.Repeat("{{1},{}},", api.MaxItems-1) + "'" + full + "'}",
	} {
		v, ok := Read(text)
		if !ok {
			t.Errorf("Read(%q): no value", text)
		} else if v.Written() != text {
			t.Errorf("Read(%q) is written %q", text, v.Written())
		}
	}
}

func TestReadRefuses(t *testing.T) {
	for _, text := range []string{
		"", " ", "-", "-0", "00", "01", "-01", "+1", "1 ", " 1", "1-2", "--1", "1_0", "0x1", "1.0", "1e3",
		"9223372036854775808", "-9223372036854775809", strings.Repeat("9", 1000), "\x00", "1\n",
		"'", "'a", "a'", "a", "none", "'a''", "'a'b'", "'\x1f'", "'\x7f'", "'\x80'", "'" + strings.Repeat("x", api.MaxWord+1) + "'",
		"{", "}", "{1", "{1,", "{1,}", "{,}", "{,1}", "{ }", "{1, 2}", "{1 ,2}", "{1}{2}", "{}}", "{{}", "{1;2}", "{'a}", "{-0}", "1,2",
		"{{{{}}}}", "{{{{1}}}}", "{1,{2,{3,{}}}}", strings.Repeat("{", 100000),
		"{" + strings.Repeat("1,", api.MaxItems) + "1}", "{{" + strings.Repeat("1,", api.MaxItems) + "1}}",
	} {
		if v, ok := Read(text); ok || v != nil {
			t.Errorf("Read(%q) is a value", text)
		}
	}
}

// made tells what two written values make, as it is written, or by what they are broken.
func made(op byte, x, y string) (string, api.Errno) {
	first, _ := Read(x)
	second, _ := Read(y)
	worth := Worked(func() Value { return Make(op, first, second) })
	if worth.Code != api.OK {
		return "", worth.Code
	}
	return worth.Is.Written(), api.OK
}

func TestMake(t *testing.T) {
	const least, most = "-9223372036854775808", "9223372036854775807"
	for _, c := range []struct {
		op   byte
		x, y string
		want string
		code api.Errno
	}{
		{'+', "2", "3", "5", 0}, {'+', most, "1", least, 0}, {'+', "'a'", "'b'", "'ab'", 0}, {'+', "{1}", "{'a',{}}", "{1,'a',{}}", 0},
		{'+', "'" + strings.Repeat("x", 30) + "'", "''", "'" + strings.Repeat("x", 30) + "'", 0},
		{'+', "'" + strings.Repeat("x", 30) + "'", "'y'", "", api.ErrLarge},
		{'+', "{1,2,3,4,5,6}", "{1,2,3,4,5,6}", "{1,2,3,4,5,6,1,2,3,4,5,6}", 0}, {'+', "{1,2,3,4,5,6,7}", "{1,2,3,4,5,6}", "", api.ErrLarge},
		{'+', "1", "'a'", "", api.ErrKind}, {'+', "'a'", "1", "", api.ErrKind}, {'+', "{}", "'a'", "", api.ErrKind}, {'+', "1", "{}", "", api.ErrKind},
		{'-', "2", "3", "-1", 0}, {'-', least, "1", most, 0}, {'-', "0", least, least, 0}, {'-', "'a'", "'a'", "", api.ErrKind},
		{'*', "-2", "3", "-6", 0}, {'*', most, "2", "-2", 0}, {'*', "{}", "2", "", api.ErrKind},
		{'/', "7", "2", "3", 0}, {'/', "-7", "2", "-3", 0}, {'/', "7", "-2", "-3", 0}, {'/', least, "-1", least, 0},
		{'/', "1", "0", "", api.ErrNought}, {'/', "'a'", "0", "", api.ErrKind}, {'/', "1", "''", "", api.ErrKind},
		{'<', "-1", "0", "1", 0}, {'<', "0", "0", "0", 0}, {'<', least, most, "1", 0}, {'<', "'a'", "'ab'", "1", 0}, {'<', "'b'", "'ab'", "0", 0}, {'<', "'~'", "' '", "0", 0},
		{'<', "{}", "{1}", "", api.ErrKind}, {'<', "1", "'a'", "", api.ErrKind}, {'<', "'a'", "1", "", api.ErrKind},
		{'=', "1", "1", "1", 0}, {'=', "1", "2", "0", 0}, {'=', "'1'", "1", "0", 0}, {'=', "'a'", "'a'", "1", 0}, {'=', "{}", "{}", "1", 0}, {'=', "{}", "''", "0", 0},
		{'=', "{1,{'a'}}", "{1,{'a'}}", "1", 0}, {'=', "{1,{'a'}}", "{1,{'b'}}", "0", 0}, {'=', "{1}", "{1,2}", "0", 0}, {'=', "1", "{1}", "0", 0},
		{OpMin, "1", "-1", "-1", 0}, {OpMax, "1", "-1", "1", 0}, {OpMin, "'a'", "'b'", "", api.ErrKind}, {OpMax, "1", "{}", "", api.ErrKind},
		{OpAt, "'abc'", "2", "'c'", 0}, {OpAt, "{1,{2}}", "1", "{2}", 0}, {OpAt, "'abc'", "3", "", api.ErrNone}, {OpAt, "'abc'", "-1", "", api.ErrNone},
		{OpAt, "{}", "0", "", api.ErrNone}, {OpAt, "{1}", most, "", api.ErrNone}, {OpAt, "{1}", least, "", api.ErrNone}, {OpAt, "1", "9", "", api.ErrKind}, {OpAt, "{}", "'a'", "", api.ErrKind},
	} {
		if got, code := made(c.op, c.x, c.y); got != c.want || code != c.code {
			t.Errorf("%s %c %s = %q, %d, want %q, %d", c.x, c.op, c.y, got, code, c.want, c.code)
		}
	}
}

func TestMakeLeavesLists(t *testing.T) {
	room := make(List, 1, 8)
	room[0] = Number(1)
	one := Make('+', room, List{Number(2)})
	other := Make('+', room, List{Number(3)})
	if one.Written() != "{1,2}" || other.Written() != "{1,3}" {
		t.Errorf("two lists out of one: %s and %s", one.Written(), other.Written())
	}
}

func TestListOf(t *testing.T) {
	for _, c := range []struct {
		items []Value
		code  api.Errno
	}{
		{nil, api.OK}, {make12(), api.OK}, {append(make12(), Number(0)), api.ErrLarge},
		{[]Value{List{List{Number(1)}}}, api.OK}, {[]Value{Number(0), List{List{List{}}}}, api.ErrLarge},
	} {
		if worth := Worked(func() Value { return ListOf(c.items) }); worth.Code != c.code {
			t.Errorf("ListOf(%s): %d, want %d", List(c.items).Written(), worth.Code, c.code)
		}
	}
}

func make12() []Value {
	var items []Value
	for i := range api.MaxItems {
		items = append(items, Number(i))
	}
	return items
}

// TestSameAndTold: two worths are the same if they are told alike.
func TestSameAndTold(t *testing.T) {
	var all []Worth
	for _, text := range []string{"0", "-1", "''", "'0'", "{}", "{0}", "{'0'}", "{{}}", "{1,2}", "{2,1}", "{{1},{2}}", "{{1},{'2'}}"} {
		v, _ := Read(text)
		all = append(all, Worth{Is: v})
		if told := all[len(all)-1].Told(); told != (api.Worth{Is: text}) {
			t.Errorf("%s is told %v", text, told)
		}
	}
	for code := api.ErrNone; code <= api.ErrRound; code++ {
		all = append(all, Worth{Code: code})
		if told := (Worth{Code: code}).Told(); told != (api.Worth{Code: code}) {
			t.Errorf("broken by %d is told %v", code, told)
		}
	}
	for _, x := range all {
		for _, y := range all {
			if x.Same(y) != (x.Told() == y.Told()) {
				t.Errorf("%v and %v: Same is %t", x, y, x.Same(y))
			}
		}
	}
}

func TestWorked(t *testing.T) {
	if worth := Worked(func() Value { return Word("a") }); worth.Code != api.OK || worth.Take() != Word("a") {
		t.Errorf("what is not broken: %v", worth)
	}
	for code := api.ErrNone; code <= api.ErrRound; code++ {
		worth := Worked(func() Value { return Worth{Code: code}.Take() })
		if worth.Code != code || worth.Is != nil {
			t.Errorf("broken by %d: %v", code, worth)
		}
	}
	defer func() {
		if recover() != "another" {
			t.Error("a panic of another kind was held up")
		}
	}()
	Worked(func() Value { panic("another") })
}

// TestReadWorth: a worth is read up to where it ends, and written as it was read; what stands behind it is not looked at.
func TestReadWorth(t *testing.T) {
	words := []string{"none", "nought", "kind", "large", "spent"}
	for i, text := range append(words, "0", "-5", "9223372036854775807", "''", "' a=b '", "{}", "{1,'a b',{{}}}") {
		for _, behind := range []string{"", " ", " a=1", "=", "x", ",1", "'", "{"} {
			worth, rest, ok := ReadWorth(text + behind)
			if !ok || rest != behind || worth.Written() != text {
				t.Errorf("ReadWorth(%q) = %v, %q, %t", text+behind, worth, rest, ok)
			}
			if i < len(words) && worth.Code != api.ErrNone+api.Errno(i) || i >= len(words) && worth.Code != api.OK {
				t.Errorf("ReadWorth(%q) is broken by %d", text+behind, worth.Code)
			}
		}
	}
	for _, text := range []string{"", " ", " 1", "round", "None", "non", "ok", "a", "-", "-0", "01", "1-", "--1", "9223372036854775808", "'a", "'" + strings.Repeat("x", 31) + "'", "{", "{1", "{1,}", "{none}", "{{{{}}}}", "=1", "\x00"} {
		if worth, rest, ok := ReadWorth(text); ok || worth != (Worth{}) || rest != "" {
			t.Errorf("ReadWorth(%q) = %v, %q, %t", text, worth, rest, ok)
		}
	}
}
