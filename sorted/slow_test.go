package sorted

import (
	"fmt"
	"maps"
	"math/rand/v2"
	"slices"
	"strings"
	"testing"
)

// slowMap is a map from the promises' words, made otherwise than Map: a map of the language, whose keys are sorted when they are told.
type slowMap map[string]int

func (s slowMap) put(k string, v int) bool {
	_, ok := s[k]
	s[k] = v
	return !ok
}

func (s slowMap) del(k string) bool {
	_, ok := s[k]
	delete(s, k)
	return ok
}

// rising are the keys that pass, and their values, as told tells them.
func (s slowMap) rising(passes func(k string) bool) string {
	var words []string
	for _, k := range slices.Sorted(maps.Keys(s)) {
		if passes(k) {
			words = append(words, fmt.Sprint(k, " ", s[k]))
		}
	}
	return strings.Join(words, ", ")
}

func (s slowMap) falling() string {
	keys := slices.Sorted(maps.Keys(s))
	slices.Reverse(keys)
	var words []string
	for _, k := range keys {
		words = append(words, fmt.Sprint(k, " ", s[k]))
	}
	return strings.Join(words, ", ")
}

// pairing is a map and the slow one to which it is held.
type pairing struct {
	fast *Map[string, int]
	slow slowMap
}

func newPairing() pairing {
	return pairing{&Map[string, int]{}, slowMap{}}
}

// step has both do the same, by two numbers, and fails if they answer otherwise.
func (p pairing) step(t *testing.T, what, which byte, v int) {
	t.Helper()
	k := keyOf(which)
	switch what % 4 {
	case 0, 1:
		if got, want := p.fast.Put(k, v), p.slow.put(k, v); got != want {
			t.Fatalf("Put %q: %v, not %v", k, got, want)
		}
	case 2:
		if got, want := p.fast.Del(k), p.slow.del(k); got != want {
			t.Fatalf("Del %q: %v, not %v", k, got, want)
		}
	default:
		wantRow(t, "From "+k, p.fast.From(k), p.slow.rising(func(other string) bool { return other >= k }))
	}
	got, ok := p.fast.Get(k)
	want, there := p.slow[k]
	if got != want || ok != there || p.fast.Len() != len(p.slow) {
		t.Fatalf("Get %q: %d, %v, not %d, %v; %d keys, not %d", k, got, ok, want, there, p.fast.Len(), len(p.slow))
	}
}

// keyOf is a text of no, one or two letters, so that some begin with others.
func keyOf(n byte) string {
	const digits = "\x00am\xff"
	k := ""
	for n %= 21; n > 0; n = (n - 1) / 4 {
		at := (n - 1) % 4
		k += digits[at : at+1]
	}
	return k
}

// wantWhole fails if the two tell otherwise as a whole.
func (p pairing) wantWhole(t *testing.T) {
	t.Helper()
	wantRow(t, "All", p.fast.All(), p.slow.rising(func(string) bool { return true }))
	wantRow(t, "Back", p.fast.Back(), p.slow.falling())
}

// wantMerged fails if two maps are merged otherwise than the slow ones, the second of which is put over the first.
func wantMerged(t *testing.T, a, b pairing) {
	t.Helper()
	over := maps.Clone(a.slow)
	maps.Copy(over, b.slow)
	wantRow(t, "Merge", Merge(a.fast.All(), b.fast.All()), over.rising(func(string) bool { return true }))
}

func TestAsTheSlowMap(t *testing.T) {
	r := rand.New(rand.NewPCG(5, 1))
	for range 300 {
		a, b := newPairing(), newPairing()
		for n := range 60 {
			a.step(t, byte(r.Uint32()), byte(r.Uint32()), n)
			b.step(t, byte(r.Uint32()), byte(r.Uint32()), 100+n)
			a.wantWhole(t)
			wantMerged(t, a, b)
		}
	}
}

// FuzzMap holds two maps and their merge against the slow ones, for any row of calls.
func FuzzMap(f *testing.F) {
	f.Add([]byte{0, 0, 0, 1, 2, 1, 2, 0, 3, 1})
	f.Add([]byte{0, 7, 4, 7, 0, 20, 128, 7, 128, 3, 130, 3, 131, 1})
	f.Fuzz(func(t *testing.T, calls []byte) {
		two := []pairing{newPairing(), newPairing()}
		for n := 0; n+1 < len(calls); n += 2 {
			two[calls[n]>>7].step(t, calls[n], calls[n+1], n)
		}
		two[0].wantWhole(t)
		two[1].wantWhole(t)
		wantMerged(t, two[0], two[1])
		wantMerged(t, two[1], two[0])
	})
}
