package larder

import (
	"maps"
	"math/rand"
	"slices"
	"strings"
	"testing"

	"larder/api"
)

// TestWhatFollows: P9 and P6: whatever is done with a larder, Ask tells what one tells in which nothing was kept, and runs what its needs ask for, in their order, and nothing else; so do larders that were packed, or opened again, and what is left of it wherever its journal is cut off.
func TestWhatFollows(t *testing.T) {
	for seed := range int64(60) {
		s := &story{t: t, r: rand.New(rand.NewSource(seed)), l: New(), told: map[string][2]string{}}
		for range 250 {
			s.change()
			s.ask()
			if t.Failed() {
				t.Fatalf("seed %d", seed)
			}
		}
		s.cutOff()
	}
}

// story is a larder, and what was given to its keys: "put" or "set", and the text.
type story struct {
	t    *testing.T
	r    *rand.Rand
	l    *Larder
	told map[string][2]string
}

const storyKeys = "a b c d e f k0 k1 k2"

func (s *story) oneOf(words ...string) string { return words[s.r.Intn(len(words))] }

func (s *story) key() string { return s.oneOf(strings.Fields(storyKeys)...) }

// rule is a rule that needs keys in one of many ways.
func (s *story) rule(depth int) string {
	if depth == 0 {
		return s.oneOf(s.key(), s.key(), s.key(), "0", "1", "'a'", "{1,2}", "[1]", "['b']")
	}
	inner := func() string { return s.rule(depth - 1) }
	switch s.r.Intn(9) {
	case 0:
		return "(" + inner() + s.oneOf("+", "-", "*", "/", "<", "=") + inner() + ")"
	case 1, 2:
		return "if " + inner() + " then " + inner() + " else " + s.rule(0)
	case 3, 4:
		return "try(" + inner() + "," + inner() + ")"
	case 5:
		return "[" + inner() + "]"
	case 6:
		return "each({0,1,'c'},try([it]," + inner() + "))"
	case 7:
		return "size({" + inner() + "," + inner() + "})"
	}
	return inner()
}

func (s *story) change() {
	switch s.r.Intn(60) {
	case 0:
		s.l.Pack()
	case 1:
		s.l = open(s.t, s.l.Journal())
		ran(s.t, s.l)
	default:
		s.changeKey()
	}
}

func (s *story) changeKey() {
	key := s.key()
	switch s.r.Intn(12) {
	case 0, 1, 2, 3, 4, 5:
		value := s.oneOf("0", "1", "2", "'a'", "'d'", "{1,'b'}", "{0}")
		put(s.t, s.l, key, value)
		s.told[key] = [2]string{"put", value}
	case 6, 7, 8:
		rule := s.rule(2)
		if code, _ := Check(rule); code == api.OK {
			set(s.t, s.l, key, rule)
			s.told[key] = [2]string{"set", rule}
		}
	case 9:
		if s.l.Drop(key) == api.OK {
			delete(s.told, key)
		}
	case 10:
		s.l.Forget(key)
	}
}

// anew is a larder that has what this one has, in which nothing is kept.
func (s *story) anew() *Larder {
	l := New()
	for key, told := range s.told {
		if told[0] == "put" {
			put(s.t, l, key, told[1])
		} else {
			set(s.t, l, key, told[1])
		}
	}
	return l
}

// needsOf is what is kept for each key that it is kept for.
func needsOf(l *Larder) map[string][]api.Need {
	all := map[string][]api.Need{}
	for _, key := range strings.Fields(storyKeys) {
		if _, needs, code := l.Kept(key); code == api.OK {
			all[key] = needs
		}
	}
	return all
}

func (s *story) ask() {
	key := s.key()
	before, fresh, twins := needsOf(s.l), s.anew(), s.twins()
	value, code, ring, all := askAll(s.l, key)
	for _, twin := range twins {
		if _, _, _, got := askAll(twin, key); got != all {
			s.t.Errorf("P9: Ask(%s) and what came of it: %s; of a larder that was opened or packed: %s", key, all, got)
		}
	}
	freshValue, freshCode, freshRing := fresh.Ask(key)
	if value != freshValue || code != freshCode || !slices.Equal(ring, freshRing) {
		s.t.Errorf("P9: Ask(%s) = %q, %d, %v; if nothing is kept %q, %d, %v", key, value, code, ring, freshValue, freshCode, freshRing)
	}
	s.holdKept(before, fresh)
	s.holdCauses(before, fresh)
	if code == api.ErrRound {
		s.askRound(key)
		return
	}
	want := expect{told: s.told, before: before, fresh: fresh, done: map[string]int{}}
	want.bring(key)
	if got := s.l.Ran(); !slices.Equal(got, want.causes) {
		s.t.Errorf("P6: behind Ask(%s) Ran() = %v, want %v", key, got, want.causes)
	}
	if again, code2, _ := s.l.Ask(key); again != value || code2 != code || len(s.l.Ran()) != 0 {
		s.t.Errorf("P9: Ask(%s) again = %q, %d, Ran() = %v", key, again, code2, s.l.Ran())
	}
}

// holdKept: what was run is kept as a larder keeps it in which nothing was kept; what was not run stays.
func (s *story) holdKept(before map[string][]api.Need, fresh *Larder) {
	want := maps.Clone(before)
	for _, cause := range s.l.Ran() {
		fresh.Ask(cause.Key)
		delete(want, cause.Key)
		worth, _, _ := s.l.Kept(cause.Key)
		freshWorth, needs, code := fresh.Kept(cause.Key)
		if code == api.OK {
			want[cause.Key] = needs
		}
		if worth != freshWorth {
			s.t.Errorf("P6: Kept(%s) = %v, want %v", cause.Key, worth, freshWorth)
		}
	}
	if after := needsOf(s.l); !maps.EqualFunc(after, want, slices.Equal) {
		s.t.Errorf("P6: what is kept went from %v to %v, want %v", before, after, want)
	}
}

// holdCauses: each cause is of what was kept, and of what is now, also of round.
func (s *story) holdCauses(before map[string][]api.Need, fresh *Larder) {
	for _, cause := range s.l.Ran() {
		needs, ok := before[cause.Key]
		if !ok {
			if cause != (api.Cause{Key: cause.Key}) {
				s.t.Errorf("P1: nothing was kept for %v", cause)
			}
			continue
		}
		i := slices.Index(needs, api.Need{Key: cause.Need, Worth: cause.Was})
		if now := worthOf(fresh, cause.Need); i < 0 || now != cause.Now || now == cause.Was {
			s.t.Errorf("P6: of %v was kept %v, and is now %v", cause, needs, now)
		}
		for _, n := range needs[:max(i, 0)] {
			if worthOf(fresh, n.Key) != n.Worth {
				s.t.Errorf("P6: %v, but ahead of it stands %v", cause, n)
			}
		}
	}
}

// askRound: asked again, the rules of keys that are broken by round alone are run, each once.
func (s *story) askRound(key string) {
	s.l.Ask(key)
	causes := s.l.Ran()
	fresh := s.anew()
	seen := map[string]int{}
	for _, cause := range causes {
		if _, code, _ := fresh.Ask(cause.Key); code != api.ErrRound {
			s.t.Errorf("P9: Ask(%s) again ran %v, which is broken by %d", key, cause, code)
		}
		if seen[cause.Key]++; seen[cause.Key] > 1 {
			s.t.Errorf("P9: Ask(%s) ran %s twice", key, cause.Key)
		}
	}
	if len(causes) == 0 {
		s.t.Errorf("P9: Ask(%s) again ran nothing, though it is broken by round", key)
	}
}

// expect works out what an Ask that is not broken by round must run, from what was kept ahead of it and from what another larder worked out in full.
type expect struct {
	told   map[string][2]string
	before map[string][]api.Need
	fresh  *Larder
	done   map[string]int
	causes []api.Cause
}

func (e *expect) bring(key string) {
	if e.done[key] > 0 || e.told[key][0] != "set" {
		return
	}
	e.done[key]++
	cause := api.Cause{Key: key}
	if needs, ok := e.before[key]; ok {
		i := slices.IndexFunc(needs, func(n api.Need) bool {
			e.bring(n.Key)
			return worthOf(e.fresh, n.Key) != n.Worth
		})
		if i < 0 {
			return
		}
		cause = api.Cause{Key: key, Need: needs[i].Key, Was: needs[i].Worth, Now: worthOf(e.fresh, needs[i].Key)}
	}
	e.causes = append(e.causes, cause)
	_, needs, _ := e.fresh.Kept(key)
	for _, n := range needs {
		e.bring(n.Key)
	}
}

// worthOf is what a need is worth to a rule.
func worthOf(l *Larder, key string) api.Worth {
	value, code, _ := l.Ask(key)
	if code == api.ErrName {
		code = api.ErrNone // of [ ], a key that can have nothing
	}
	return api.Worth{Code: code, Is: value}
}
