package plan

import (
	"math/rand/v2"
	"slices"
	"testing"

	"tephra/api"
	"tephra/edits"
)

// What the promises say, in their words and otherwise than the layer does it: the order is found by looking for the least file again and again, and each step goes through all files anew.

// ahead tells whether the file at a place of the list is considered ahead of the one at another place.
func ahead(s edits.Set, a, b int) bool {
	x, y := s.Refs[a], s.Refs[b]
	if x.From != y.From {
		return x.From < y.From
	}
	if x.To != y.To {
		return x.To < y.To
	}
	return a < b
}

// slowOrder are the places of the files of a kind.
func slowOrder(s edits.Set, kind api.Kind) []int {
	var left, order []int
	for at, r := range s.Refs {
		if r.Kind == kind {
			left = append(left, at)
		}
	}
	for len(left) > 0 {
		first := 0
		for i := range left {
			if ahead(s, left[i], left[first]) {
				first = i
			}
		}
		order = append(order, left[first])
		left = slices.Delete(left, first, first+1)
	}
	return order
}

// slowLast is the place of the last part; -1: there is none.
func slowLast(s edits.Set) int {
	last := -1
	for _, at := range slowOrder(s, 2) {
		last = at
	}
	return last
}

func slowEnd(s edits.Set, at, last int) int {
	if at == slowLast(s) && last > s.Refs[at].To {
		return last
	}
	return s.Refs[at].To
}

func slowDelta(s edits.Set, position, index int) int {
	for _, at := range slowOrder(s, 1) {
		r := s.Refs[at]
		if r.From == position && r.To > position && r.To <= index {
			return at
		}
	}
	return -1
}

// slowPart begins with the first part at each step.
func slowPart(s edits.Set, position, last int) int {
	for _, at := range slowOrder(s, 2) {
		if s.Refs[at].From <= position && slowEnd(s, at, last) > position {
			return at
		}
	}
	return -1
}

func slowOf(s edits.Set, last, index int) (Plan, api.Errno) {
	if index < s.Floor || index > last {
		return Plan{}, api.ErrRetained
	}
	var p Plan
	position := 0
	for _, at := range slowOrder(s, 0) {
		if s.Refs[at].To <= index {
			p.Full = &api.Ref{}
			*p.Full = s.Refs[at]
			position = s.Refs[at].To
		}
	}
	for at := slowDelta(s, position, index); at >= 0; at = slowDelta(s, position, index) {
		p.Deltas = append(p.Deltas, s.Refs[at])
		position = s.Refs[at].To
	}
	for position < index {
		at := slowPart(s, position, last)
		if at < 0 {
			return Plan{}, api.ErrRetained
		}
		p.Parts = append(p.Parts, s.Refs[at])
		position = slowEnd(s, at, last)
	}
	return p, 0
}

func slowUnneeded(s edits.Set, floor int) []string {
	base, any := -1, false
	for _, r := range s.Refs {
		if r.Kind == 0 && r.To <= floor && (!any || r.To > base) {
			base, any = r.To, true
		}
	}
	var names []string
	for at, r := range s.Refs {
		switch {
		case r.Kind == 0:
			if r.To < base {
				names = append(names, r.Name)
			}
		case at == slowLast(s):
		case r.To <= base && r.From < base:
			names = append(names, r.Name)
		}
	}
	return names
}

func slowPair(s edits.Set) (api.Ref, api.Ref, bool) {
	order := slowOrder(s, 1)
	for _, a := range order {
		for _, b := range order {
			if a != b && s.Refs[a].To == s.Refs[b].From && s.Refs[b].To > s.Refs[b].From {
				return s.Refs[a], s.Refs[b], true
			}
		}
	}
	return api.Ref{}, api.Ref{}, false
}

func copySet(s edits.Set) edits.Set {
	return edits.Set{Refs: slices.Clone(s.Refs), Floor: s.Floor}
}

func sameSet(a, b edits.Set) bool {
	return slices.Equal(a.Refs, b.Refs) && a.Floor == b.Floor
}

func samePlan(a, b Plan) bool {
	if (a.Full == nil) != (b.Full == nil) || a.Full != nil && *a.Full != *b.Full {
		return false
	}
	return slices.Equal(a.Deltas, b.Deltas) && slices.Equal(a.Parts, b.Parts)
}

// Each of these holds a function against the slow one, and fails if they answer otherwise, or if an argument is changed.

func holdOf(t *testing.T, s edits.Set, last, index int) (Plan, api.Errno) {
	t.Helper()
	before := copySet(s)
	got, wrong := Of(s, last, index)
	want, slow := slowOf(before, last, index)
	if !samePlan(got, want) || wrong != slow {
		t.Fatalf("%d of %#v up to %d: %s, not %s", index, before, last, told(got, wrong), told(want, slow))
	}
	if !sameSet(s, before) {
		t.Fatalf("%#v was changed: %#v", before, s)
	}
	return got, wrong
}

func holdUnneeded(t *testing.T, s edits.Set, floor int) []string {
	t.Helper()
	before := copySet(s)
	got := Unneeded(s, floor)
	want := slowUnneeded(before, floor)
	if !slices.Equal(got, want) {
		t.Fatalf("%#v from %d on: %q, not %q", before, floor, got, want)
	}
	if !sameSet(s, before) {
		t.Fatalf("%#v was changed: %#v", before, s)
	}
	return got
}

func holdPair(t *testing.T, s edits.Set) (api.Ref, api.Ref, bool) {
	t.Helper()
	before := copySet(s)
	a, b, ok := Pair(s)
	x, y, slow := slowPair(before)
	if a != x || b != y || ok != slow {
		t.Fatalf("%#v: %#v, %#v, %v, not %#v, %#v, %v", before, a, b, ok, x, y, slow)
	}
	if !sameSet(s, before) {
		t.Fatalf("%#v was changed: %#v", before, s)
	}
	return a, b, ok
}

// maker makes lists by numbers that it is given.
type maker struct {
	next func(n int) int // from 0 to n - 1
}

// number is mostly one of a few, so that files meet; at times any.
func (m maker) number() int {
	if m.next(80) == 0 {
		return numbers[m.next(len(numbers))]
	}
	return m.next(14)
}

// ref is mostly one that may be listed. Its name tells its place, for files are often alike but for that.
func (m maker) ref(at int) api.Ref {
	r := api.Ref{Name: string(rune('a' + at)), Kind: api.Part, From: m.number()}
	switch m.next(6) {
	case 0:
		r.Kind = api.Full
	case 1, 2, 3:
		r.Kind = api.Delta
	}
	r.To = r.From
	if r.Kind != api.Full {
		r.To += m.next(5)
	}
	switch m.next(60) {
	case 0:
		r.Kind = api.Kind(m.next(7) - 2)
	case 1:
		r.To = m.number()
	case 2:
		r.Name = ""
	}
	return r
}

func (m maker) set() edits.Set {
	s := edits.Set{Floor: m.next(4)}
	if m.next(10) == 0 {
		s.Floor = m.number()
	}
	for at := range m.next(13) {
		r := m.ref(at)
		if at > 0 && r.Kind != api.Full && m.next(2) == 0 {
			end := s.Refs[m.next(at)].To
			r.From, r.To = end, end+r.To-r.From
		}
		s.Refs = append(s.Refs, r)
	}
	if len(s.Refs) > 0 && m.next(3) == 0 {
		slices.Reverse(s.Refs)
	}
	return s
}

// valid is a list as edits.Do makes it.
func (m maker) valid() edits.Set {
	s := m.set()
	s.Floor = m.next(14)
	s.Refs = slices.DeleteFunc(s.Refs, func(r api.Ref) bool { return !edits.May(r) })
	return s
}

// tally counts the answers of one kind.
type tally struct {
	restored, below, above, noWay int
	none, full                    int // plans without a full file, and with one
	deltas, parts                 [3]int
	names                         [3]int
	paired, single                int
}

func (n *tally) plan(s edits.Set, last, index int, p Plan, wrong api.Errno) {
	switch {
	case wrong == 0:
		n.restored++
		if p.Full == nil {
			n.none++
		} else {
			n.full++
		}
		n.deltas[min(len(p.Deltas), 2)]++
		n.parts[min(len(p.Parts), 2)]++
	case index < s.Floor:
		n.below++
	case index > last:
		n.above++
	default:
		n.noWay++
	}
}

func holdAll(t *testing.T, m maker, n *tally) {
	t.Helper()
	s := m.set()
	last := m.number() + m.next(8)
	for range 4 {
		index := m.number()
		p, wrong := holdOf(t, s, last, index)
		n.plan(s, last, index, p, wrong)
	}
	n.names[min(len(holdUnneeded(t, s, m.number())), 2)]++
	if _, _, ok := holdPair(t, s); ok {
		n.paired++
	} else {
		n.single++
	}
	holdLeads(t, m.valid(), m.next(20))
}

// holdLeads holds what the functions are for, of a list that may be: a plan leads to its index step by step, and goes the same way where the unneeded files are gone.
func holdLeads(t *testing.T, s edits.Set, last int) {
	t.Helper()
	less := copySet(s)
	unneeded := holdUnneeded(t, s, s.Floor)
	less.Refs = slices.DeleteFunc(less.Refs, func(r api.Ref) bool { return slices.Contains(unneeded, r.Name) })
	for index := s.Floor; index <= last; index++ {
		p, wrong := holdOf(t, s, last, index)
		q, still := holdOf(t, less, last, index)
		if !samePlan(p, q) || wrong != still {
			t.Fatalf("%d of %#v: %s, but without %q: %s", index, s, told(p, wrong), unneeded, told(q, still))
		}
		if wrong == 0 && !leads(s, p, last, index) {
			t.Fatalf("%d of %#v: %s does not lead there", index, s, told(p, wrong))
		}
	}
}

// leads tells whether all entries up to an index, and no delta behind it, are in a plan.
func leads(s edits.Set, p Plan, last, index int) bool {
	at := 0
	if p.Full != nil {
		at = p.Full.To
	}
	for _, r := range p.Deltas {
		if r.From != at || r.To <= at {
			return false
		}
		at = r.To
	}
	if at > index {
		return false
	}
	for _, r := range p.Parts {
		end := slowEnd(s, slices.Index(s.Refs, r), last)
		if r.From > at || end <= at || at >= index {
			return false
		}
		at = end
	}
	return at >= index
}

func TestAsTheSlowFunctions(t *testing.T) {
	m := maker{rand.New(rand.NewPCG(11, 1)).IntN}
	var n tally
	for range 30000 {
		holdAll(t, m, &n)
	}
	for what, count := range map[string]int{
		"restored": n.restored, "below": n.below, "above": n.above, "no way": n.noWay,
		"no full file": n.none, "a full file": n.full,
		"no delta": n.deltas[0], "a delta": n.deltas[1], "deltas": n.deltas[2],
		"no part": n.parts[0], "a part": n.parts[1], "parts": n.parts[2],
		"no name": n.names[0], "a name": n.names[1], "names": n.names[2],
		"a pair": n.paired, "no pair": n.single,
	} {
		if count < 500 {
			t.Errorf("%s: only %d", what, count)
		}
	}
}

// FuzzPlan holds the functions against the slow ones, for lists of any kind.
func FuzzPlan(f *testing.F) {
	f.Add([]byte{0})
	f.Add([]byte("a list, the last index, and four others"))
	f.Fuzz(func(t *testing.T, numbers []byte) {
		at := 0
		next := func(n int) int {
			if len(numbers) == 0 {
				return 0
			}
			at++
			return (int(numbers[at%len(numbers)]) + at/len(numbers)) % n
		}
		holdAll(t, maker{next}, new(tally))
	})
}
