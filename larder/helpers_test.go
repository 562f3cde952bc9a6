package larder

import (
	"slices"
	"testing"

	"larder/api"
)

func put(t *testing.T, l *Larder, key, value string) {
	t.Helper()
	if code := l.Put(key, value); code != api.OK {
		t.Fatalf("P4: Put(%q, %q) = %d", key, value, code)
	}
}

func set(t *testing.T, l *Larder, key, rule string) {
	t.Helper()
	if code, at := l.Set(key, rule); code != api.OK || at != 0 {
		t.Fatalf("P4: Set(%q, %q) = %d, %d", key, rule, code, at)
	}
}

func drop(t *testing.T, l *Larder, key string) {
	t.Helper()
	if code := l.Drop(key); code != api.OK {
		t.Fatalf("P4: Drop(%q) = %d", key, code)
	}
}

// is and broken hold what Ask tells against what it should.
func is(t *testing.T, l *Larder, key, want string) {
	t.Helper()
	if got, code, ring := l.Ask(key); got != want || code != api.OK || len(ring) != 0 {
		t.Errorf("P5: Ask(%q) = %q, %d, %v, want %q", key, got, code, ring, want)
	}
}

func broken(t *testing.T, l *Larder, key string, want api.Errno, wantRing ...string) {
	t.Helper()
	if got, code, ring := l.Ask(key); got != "" || code != want || !slices.Equal(ring, wantRing) {
		t.Errorf("P5: Ask(%q) = %q, %d, %v, want %d, %v", key, got, code, ring, want, wantRing)
	}
}
