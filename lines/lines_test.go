package lines

import (
	"fmt"
	"hash/fnv"
	"slices"
	"strings"
	"testing"
)

// TestOf: P7: a line is its text, a blank, eight hexadecimal digits of its sum, and a line feed.
func TestOf(t *testing.T) {
	if got := Of("put a 2"); got != "put a 2 d39f2de3\n" {
		t.Errorf("P7: the document's example is %q", got)
	}
	if got := Of(""); got != " 811c9dc5\n" {
		t.Errorf("P7: the line of no text is %q", got)
	}
	short := 0
	for i := range 100000 {
		text := fmt.Sprintf("put n%d %d", i%40, i)
		h := fnv.New32a()
		h.Write([]byte(text))
		if h.Sum32() < 1<<24 {
			short++
		}
		if got, want := Of(text), fmt.Sprintf("%s %08x\n", text, h.Sum32()); got != want {
			t.Fatalf("P7: Of(%q) = %q, want %q", text, got, want)
		}
	}
	if short == 0 {
		t.Error("no sum began with noughts")
	}
	if got, want := Of("\xff\x80 \x00"), "\xff\x80 \x00 "; !strings.HasPrefix(got, want) || len(got) != len(want)+9 {
		t.Errorf("P7: of other bytes: %q", got)
	}
}

func texts(journal string) []string { return slices.Collect(In(journal)) }

// TestIn: P8: each line gives its text back, up to the first one that is none.
func TestIn(t *testing.T) {
	want := []string{"put a 2", "", " ", "set b  a ", "d39f2de3", " 811c9dc5"}
	var journal string
	for _, text := range want {
		journal += Of(text)
	}
	if got := texts(journal); !slices.Equal(got, want) {
		t.Errorf("P8: In = %q, want %q", got, want)
	}
	for i := range journal {
		whole := want[:strings.Count(journal[:i], "\n")]
		if got := texts(journal[:i]); !slices.Equal(got, whole) {
			t.Errorf("P8: cut off at %d: %q, want %q", i, got, whole)
		}
		for bit := range 8 {
			other := []byte(journal)
			other[i] ^= 1 << bit
			if got := texts(string(other)); !slices.Equal(got, whole) {
				t.Errorf("P8: another byte at %d: %q, want %q", i, got, whole)
			}
		}
	}
	for range In(journal) {
		break
	}
}

// TestNoLine: P8: lines that are none, by themselves and ahead of one that is.
func TestNoLine(t *testing.T) {
	line := Of("put a 2")
	for _, s := range []string{
		"", "\n", "\n\n", " \n", "put a 2\n", "put a 2 \n", "put a 2 d39f2de\n", "put a 2 d39f2de30\n", "put a 2 0d39f2de3\n", "put a 2  d39f2de3\n", "put a 2 d39f2de3 \n", "put a 2 d39f2de3\r\n", "put a 2 D39F2DE3\n", "put a 2 d39f2dE3\n", "put a 2 +39f2de3\n", "put a 2 00000000\n", "put a 2 d39f2de4\n", "put a 2\td39f2de3\n", "put a 2d39f2de3\n", "d39f2de3\n", " d39f2de3\n", "811c9dc5\n", "\x00" + line, strings.Repeat("x", 200000), strings.Repeat("\n", 200000),
	} {
		if s != "" && len(texts(s+line)) != 0 {
			t.Errorf("P8: %.40q ahead of a line: %.80q", s, texts(s+line))
		}
		if got := texts(line + s); !slices.Equal(got, []string{"put a 2"}) {
			t.Errorf("P8: %.40q behind a line: %.80q", s, got)
		}
	}
}
