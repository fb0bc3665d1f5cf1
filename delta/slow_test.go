package delta

import (
	"encoding/binary"
	"maps"
	"math/rand/v2"
	"slices"
	"testing"

	"tephra/api"
	"tephra/state"
)

// What the promises say, in their words and otherwise than the layer does it: maps of the language, whose keys are sorted when they are told.

// byKey are pairs by their keys; of two with the same key the later one.
func byKey(lists ...[]api.Pair) map[string]api.Pair {
	all := map[string]api.Pair{}
	for _, ps := range lists {
		for _, p := range ps {
			all[p.Key] = p
		}
	}
	return all
}

// inOrder are the pairs of a map by rising keys.
func inOrder(all map[string]api.Pair) []api.Pair {
	var ps []api.Pair
	for _, key := range slices.Sorted(maps.Keys(all)) {
		ps = append(ps, all[key])
	}
	return ps
}

func slowBetween(a, b api.State) (Delta, api.Errno) {
	if b.Index < a.Index || b.Term < a.Term {
		return Delta{}, api.ErrOrder
	}
	first, last := byKey(a.Pairs), byKey(b.Pairs)
	all := map[string]api.Pair{}
	for key, p := range last {
		if was, ok := first[key]; !ok || was.Value != p.Value {
			all[key] = p
		}
	}
	for key := range first {
		if _, ok := last[key]; !ok {
			all[key] = api.Pair{Key: key, Gone: true}
		}
	}
	return Delta{From: a.Index, To: b.Index, Term: b.Term, Pairs: inOrder(all), Sessions: b.Sessions}, 0
}

func slowDo(s api.State, d Delta) (api.State, api.Errno) {
	if s.Index != d.From || d.Term < s.Term {
		return api.State{}, api.ErrOrder
	}
	all := byKey(s.Pairs, d.Pairs)
	for key, p := range all {
		if p.Gone {
			delete(all, key)
		}
	}
	if len(all) > 64 {
		return api.State{}, api.ErrFull
	}
	return api.State{Index: d.To, Term: d.Term, Pairs: inOrder(all), Sessions: d.Sessions}, 0
}

func slowJoin(a, b Delta) (Delta, api.Errno) {
	if a.To != b.From || b.Term < a.Term {
		return Delta{}, api.ErrOrder
	}
	all := byKey(a.Pairs, b.Pairs)
	if len(all) > 512 {
		return Delta{}, api.ErrFull
	}
	return Delta{From: a.From, To: b.To, Term: b.Term, Pairs: inOrder(all), Sessions: b.Sessions}, 0
}

func appendNum(b []byte, n int) []byte {
	return binary.BigEndian.AppendUint64(b, uint64(n))
}

func appendText(b []byte, s string) []byte {
	return append(appendNum(b, len(s)), s...)
}

// rowsOf are the bytes of lists whose numbers of elements may be told otherwise than they are.
func rowsOf(b []byte, nPairs int, ps []api.Pair, nSessions int, xs []api.Session) []byte {
	b = appendNum(b, nPairs)
	for _, p := range ps {
		b = appendText(appendText(b, p.Key), p.Value)
		if p.Gone {
			b = append(b, 1)
		} else {
			b = append(b, 0)
		}
	}
	b = appendNum(b, nSessions)
	for _, x := range xs {
		b = appendNum(appendNum(appendNum(b, x.Client), x.Seq), int(x.Reply.Err))
		b = appendText(b, x.Reply.Value)
	}
	return b
}

func slowBytes(d Delta) []byte {
	head := appendNum(appendNum(appendNum(nil, d.From), d.To), d.Term)
	return rowsOf(head, len(d.Pairs), d.Pairs, len(d.Sessions), d.Sessions)
}

// Each of these holds a function against the slow one, and fails if they answer otherwise, if the answer is not valid, or if an argument is changed.

func holdBetween(t *testing.T, a, b api.State) (Delta, api.Errno) {
	t.Helper()
	beforeA, beforeB := copyState(a), copyState(b)
	got, e := Between(a, b)
	want, f := slowBetween(a, b)
	wantDelta(t, got, want)
	if e != f || !Right(got) {
		t.Fatalf("%#v, %#v: %v, not %v; %#v", a, b, e, f, got)
	}
	wantState(t, a, beforeA)
	wantState(t, b, beforeB)
	return got, e
}

func holdDo(t *testing.T, s api.State, d Delta) (api.State, api.Errno) {
	t.Helper()
	beforeS, beforeD := copyState(s), copyDelta(d)
	got, e := Do(s, d)
	want, f := slowDo(s, d)
	wantState(t, got, want)
	if e != f || !state.Right(got) {
		t.Fatalf("%#v, %#v: %v, not %v; %#v", s, d, e, f, got)
	}
	wantState(t, s, beforeS)
	wantDelta(t, d, beforeD)
	return got, e
}

func holdJoin(t *testing.T, a, b Delta) (Delta, api.Errno) {
	t.Helper()
	beforeA, beforeB := copyDelta(a), copyDelta(b)
	got, e := Join(a, b)
	want, f := slowJoin(a, b)
	wantDelta(t, got, want)
	if e != f || !Right(got) {
		t.Fatalf("%#v, %#v: %v, not %v; %#v", a, b, e, f, got)
	}
	wantDelta(t, a, beforeA)
	wantDelta(t, b, beforeB)
	return got, e
}

// maker makes what is valid, by numbers that it is given.
type maker struct {
	next func(n int) int // from 0 to n - 1
}

// pairs are at most most ones with keys of so many; gone is whether some are Gone.
func (m maker) pairs(most, keys int, gone bool) []api.Pair {
	all := map[string]api.Pair{}
	for n := m.next(most + 1); n > 0; n-- {
		p := api.Pair{Key: keyOf(m.next(keys))}
		if !gone || m.next(3) > 0 {
			p.Value = [...]string{"", "v", "w"}[m.next(3)]
		} else {
			p.Gone = true
		}
		all[p.Key] = p
	}
	return inOrder(all)
}

// keyOf is one of many keys of one to five letters, which rise otherwise than their numbers.
func keyOf(n int) string {
	const letters = "\x00am~\xff"
	key := ""
	for more := true; more; more = n > 0 {
		key += letters[n%5 : n%5+1]
		n /= 5
	}
	return key
}

func (m maker) sessions() []api.Session {
	var xs []api.Session
	for c := range 4 {
		if m.next(2) == 0 {
			xs = append(xs, api.Session{Client: c, Seq: m.next(5), Reply: api.Reply{Err: api.Errno(m.next(15))}})
		}
	}
	return xs
}

func (m maker) state(keys int) api.State {
	return api.State{Index: m.next(4), Term: m.next(3), Pairs: m.pairs(64, keys, false), Sessions: m.sessions()}
}

func (m maker) delta(most, keys int) Delta {
	from := m.next(4)
	return Delta{From: from, To: from + m.next(3), Term: m.next(4), Pairs: m.pairs(most, keys, true), Sessions: m.sessions()}
}

// hold makes some states and deltas and holds all functions to the slow ones, and those of the layer to one another; it counts the errors that there were.
func (m maker) hold(t *testing.T, keys int, errors map[string]int) {
	t.Helper()
	count := func(what string, e api.Errno) {
		errors[what+": "+e.Error()]++
	}
	a, b := m.state(keys), m.state(keys)
	d, e := holdBetween(t, a, b)
	count("Between", e)
	if e == 0 {
		again, e := holdDo(t, a, d)
		if e != 0 {
			t.Fatalf("%v", e)
		}
		wantState(t, again, b)
	}
	most := []int{8, 64, 512}[m.next(3)]
	x, y := m.delta(most, keys), m.delta(most, keys)
	if m.next(4) > 0 {
		x.From, x.To, y.From, y.To = a.Index, a.Index+1, a.Index+1, a.Index+1
	}
	z, e := holdJoin(t, x, y)
	count("Join", e)
	u, f := holdDo(t, a, x)
	count("Do", f)
	v, g := holdDo(t, u, y)
	count("Do", g)
	if e == 0 && f == 0 && g == 0 {
		w, h := holdDo(t, a, z)
		if h != 0 {
			t.Fatalf("%v", h)
		}
		wantState(t, w, v)
	}
	for _, d := range []Delta{d, x, y, z} {
		wantBytes(t, d)
	}
}

func TestAsTheSlowFunctions(t *testing.T) {
	r := rand.New(rand.NewPCG(8, 1))
	errors := map[string]int{}
	for n := range 4000 {
		maker{r.IntN}.hold(t, []int{3, 30, 120, 2000}[n%4], errors)
	}
	for _, what := range []string{"Between", "Do", "Join"} {
		for _, e := range []api.Errno{0, api.ErrOrder, api.ErrFull} {
			if n := errors[what+": "+e.Error()]; n < 50 && (what != "Between" || e != api.ErrFull) {
				t.Errorf("only %d of %s were %v", n, what, e)
			}
		}
	}
}

// FuzzAll holds all functions against the slow ones, for any states and deltas.
func FuzzAll(f *testing.F) {
	f.Add([]byte{0, 0, 1, 0, 1, 1, 1, 1, 1, 0, 2, 0, 0, 0, 0, 0}, byte(3))
	f.Add([]byte("several pairs, and sessions, and one more of each of them"), byte(90))
	f.Fuzz(func(t *testing.T, numbers []byte, keys byte) {
		at := 0
		next := func(n int) int {
			if len(numbers) == 0 {
				return 0
			}
			at++
			return (int(numbers[at%len(numbers)]) + at/len(numbers)) % n
		}
		maker{next}.hold(t, int(keys)+1, map[string]int{})
	})
}

// FuzzRead holds Read against P8.5: what it reads is valid and has these bytes, and what it refuses has nothing.
func FuzzRead(f *testing.F) {
	for _, d := range some {
		f.Add(slowBytes(d))
	}
	f.Add([]byte(nil))
	f.Fuzz(func(t *testing.T, b []byte) {
		d, ok := Read(b)
		if ok && (!Right(d) || string(slowBytes(d)) != string(b)) {
			t.Fatalf("%x: %#v", b, d)
		}
		if !ok {
			wantNone(t, "these", b)
		}
	})
}
