package larder

import (
	"slices"
	"strings"
	"testing"

	"larder/api"
)

func put(t *testing.T, l *Larder, key, value string) {
	t.Helper()
	if code := l.Put(key, value); code != api.OK {
		t.Fatalf("P4: Put(%q, %q) = %d", key, value, code)
	}
}

func set(t *testing.T, l *Larder, key, rule string) {
	t.Helper()
	if code, at := l.Set(key, rule); code != api.OK || at != 0 {
		t.Fatalf("P4: Set(%q, %q) = %d, %d", key, rule, code, at)
	}
}

func drop(t *testing.T, l *Larder, key string) {
	t.Helper()
	if code := l.Drop(key); code != api.OK {
		t.Fatalf("P4: Drop(%q) = %d", key, code)
	}
}

// is and broken hold what Ask tells against what it should.
func is(t *testing.T, l *Larder, key, want string) {
	t.Helper()
	if got, code, ring := l.Ask(key); got != want || code != api.OK || len(ring) != 0 {
		t.Errorf("P5: Ask(%q) = %q, %d, %v, want %q", key, got, code, ring, want)
	}
}

func broken(t *testing.T, l *Larder, key string, want api.Errno, wantRing ...string) {
	t.Helper()
	if got, code, ring := l.Ask(key); got != "" || code != want || !slices.Equal(ring, wantRing) {
		t.Errorf("P5: Ask(%q) = %q, %d, %v, want %d, %v", key, got, code, ring, want, wantRing)
	}
}

// worth is what a word says: by what something is broken, or else a value as it is written.
func worth(text string) api.Worth {
	for code, name := range []string{api.ErrNone: "none", api.ErrNought: "nought", api.ErrKind: "kind", api.ErrLarge: "large", api.ErrSpent: "spent", api.ErrRound: "round"} {
		if name != "" && name == text {
			return api.Worth{Code: api.Errno(code)}
		}
	}
	return api.Worth{Is: text}
}

// ran holds Ran against causes: "c", or "c a 2 none": the key, the need, what it was and what it is.
func ran(t *testing.T, l *Larder, want ...string) {
	t.Helper()
	var causes []api.Cause
	for _, text := range want {
		words := strings.Fields(text)
		cause := api.Cause{Key: words[0]}
		if len(words) == 4 {
			cause.Need, cause.Was, cause.Now = words[1], worth(words[2]), worth(words[3])
		}
		causes = append(causes, cause)
	}
	if got := l.Ran(); !slices.Equal(got, causes) {
		t.Errorf("P6: Ran() = %v, want %v", got, causes)
	}
}

// asked holds what Ask and Ran tell against what they should, whatever the ring.
func asked(t *testing.T, l *Larder, key, want string, wantRan ...string) {
	t.Helper()
	if got, code, _ := l.Ask(key); (api.Worth{Code: code, Is: got}) != worth(want) {
		t.Errorf("P5: Ask(%q) = %q, %d, want %s", key, got, code, want)
	}
	ran(t, l, wantRan...)
}

// kept holds Kept against a text: "7 b=5 a=none": the worth, and each need with what came out.
func kept(t *testing.T, l *Larder, key, want string) {
	t.Helper()
	words := strings.Fields(want)
	var needs []api.Need
	for _, word := range words[1:] {
		need, is, _ := strings.Cut(word, "=")
		needs = append(needs, api.Need{Key: need, Worth: worth(is)})
	}
	if got, gotNeeds, code := l.Kept(key); got != worth(words[0]) || !slices.Equal(gotNeeds, needs) || code != api.OK {
		t.Errorf("P6: Kept(%q) = %v, %v, %d, want %s", key, got, gotNeeds, code, want)
	}
}

// notKept holds that nothing is kept for these keys.
func notKept(t *testing.T, l *Larder, keys ...string) {
	t.Helper()
	for _, key := range keys {
		if got, needs, code := l.Kept(key); got != (api.Worth{}) || len(needs) != 0 || code != api.ErrNone {
			t.Errorf("P6: Kept(%q) = %v, %v, %d, want nothing", key, got, needs, code)
		}
	}
}

func forget(t *testing.T, l *Larder, key string) {
	t.Helper()
	if code := l.Forget(key); code != api.OK {
		t.Fatalf("P6: Forget(%q) = %d", key, code)
	}
}
