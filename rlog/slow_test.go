package rlog

import (
	"maps"
	"math/rand/v2"
	"slices"
	"testing"

	"tephra/api"
)

// What the promises say, in their words and otherwise than the layer does it: an entry is found by its Index, wherever it stands, and a log that is merged is a map of its entries.

func slowCmd(c api.Cmd) bool {
	if len(c.Value) > 16 || len(c.Old) > 16 {
		return false
	}
	switch c.Op {
	case 0:
		return c.Client == 0 && c.Seq == 0 && c.Key == "" && c.Value == "" && c.Old == ""
	case 1, 2, 3:
		return c.Client >= 0 && c.Client <= 3 && c.Seq >= 0 && c.Seq <= 1048576 && len(c.Key) >= 1 && len(c.Key) <= 8
	}
	return false
}

func slowEntry(e api.Entry) bool {
	return e.Index >= 1 && e.Index <= 1048576 && e.Term >= 0 && e.Term <= 1048576 && slowCmd(e.Cmd)
}

// slowRow goes from the last entry to the first one.
func slowRow(es []api.Entry, from int) bool {
	for at := len(es) - 1; at >= 0; at-- {
		if !slowEntry(es[at]) || es[at].Index-at != from {
			return false
		}
		if at > 0 && es[at-1].Term > es[at].Term {
			return false
		}
	}
	return true
}

func slowRight(l Log) bool {
	if l.Base < 0 || l.Term < 0 {
		return false
	}
	for _, e := range l.Entries {
		if e.Term < l.Term {
			return false
		}
	}
	return slowRow(l.Entries, l.Base+1)
}

func slowLast(l Log) int {
	last := l.Base
	for _, e := range l.Entries {
		last = max(last, e.Index)
	}
	return last
}

func slowTermAt(l Log, i int) (int, bool) {
	if i == l.Base {
		return l.Term, true
	}
	for _, e := range l.Entries {
		if e.Index == i {
			return e.Term, true
		}
	}
	return 0, false
}

func slowAfter(l Log, i, most int) ([]api.Entry, bool) {
	if i < l.Base || i > slowLast(l) {
		return nil, false
	}
	var es []api.Entry
	for _, e := range l.Entries {
		if e.Index > i && len(es) < most {
			es = append(es, e)
		}
	}
	return es, true
}

func slowAdd(l Log, term int, c api.Cmd) Log {
	m := Log{Base: l.Base, Term: l.Term}
	for _, e := range l.Entries {
		m.Entries = append(m.Entries, e)
	}
	m.Entries = append(m.Entries, api.Entry{Index: slowLast(l) + 1, Term: term, Cmd: c})
	return m
}

// slowCompact takes the first entry away again and again.
func slowCompact(l Log, i int) Log {
	if _, ok := slowTermAt(l, i); !ok {
		return l
	}
	for l.Base < i {
		l = Log{l.Base + 1, l.Entries[0].Term, l.Entries[1:]}
	}
	return l
}

func slowNewer(l Log, index, term int) bool {
	last, _ := slowTermAt(l, slowLast(l))
	switch {
	case term < last:
		return false
	case term == last && index < slowLast(l):
		return false
	}
	return true
}

func slowMerge(l Log, prev, term int, es []api.Entry) (Log, bool) {
	if !slowRow(es, prev+1) {
		return l, false
	}
	var rest []api.Entry
	for _, e := range es {
		if prev >= l.Base || e.Index > l.Base {
			rest = append(rest, e)
		}
	}
	if prev < l.Base {
		prev, term = l.Base, l.Term
	}
	if known, ok := slowTermAt(l, prev); !ok || known != term {
		return l, false
	}
	have := make(map[int]api.Entry)
	for _, e := range l.Entries {
		have[e.Index] = e
	}
	for _, e := range rest {
		if there, ok := have[e.Index]; ok && there.Term == e.Term {
			continue
		}
		maps.DeleteFunc(have, func(i int, _ api.Entry) bool { return i >= e.Index })
		have[e.Index] = e
	}
	m := Log{Base: l.Base, Term: l.Term}
	for _, i := range slices.Sorted(maps.Keys(have)) {
		m.Entries = append(m.Entries, have[i])
	}
	return m, true
}

// mark is an entry that stands where nothing may be written, or what is written over all that was answered.
var mark = api.Entry{Index: -77, Term: -78, Cmd: api.Cmd{Op: -79, Client: -80, Seq: -81, Key: "mark"}}

// guard is a copy of entries with room behind them, and a function that fails if these, or the room, were changed since.
func guard(es []api.Entry) ([]api.Entry, func(t *testing.T)) {
	whole := append(slices.Clone(es), mark, mark, mark)
	was := slices.Clone(whole)
	return whole[:len(es)], func(t *testing.T) {
		t.Helper()
		if !slices.Equal(whole, was) {
			t.Fatalf("an argument was changed: %v, not %v", whole, was)
		}
	}
}

// spoil writes over entries, and over the room behind them.
func spoil(es []api.Entry) {
	es = es[:cap(es)]
	for at := range es {
		es[at] = mark
	}
}

func guardLog(l Log) (Log, func(t *testing.T)) {
	es, unchanged := guard(l.Entries)
	return Log{l.Base, l.Term, es}, unchanged
}

func sameLog(a, b Log) bool {
	return a.Base == b.Base && a.Term == b.Term && slices.Equal(a.Entries, b.Entries)
}

// The functions that follow call one of the layer, hold its answer to the slow one, and hold that it changed none of its arguments and answered new memory.

func holdRight(t *testing.T, l Log) bool {
	t.Helper()
	g, unchanged := guardLog(l)
	got := Right(g)
	unchanged(t)
	if got != slowRight(l) {
		t.Fatalf("Right of %v: %v", l, got)
	}
	return got
}

// holdEnds holds Last and LastTerm.
func holdEnds(t *testing.T, l Log) (int, int) {
	t.Helper()
	g, unchanged := guardLog(l)
	last, term := g.Last(), g.LastTerm()
	unchanged(t)
	want, _ := slowTermAt(l, slowLast(l))
	if last != slowLast(l) || term != want {
		t.Fatalf("%v: Last %d, LastTerm %d", l, last, term)
	}
	return last, term
}

// holdNew is a copy of the entries of an answer, ahead of writing over them.
func holdNew(t *testing.T, got []api.Entry, unchanged func(t *testing.T)) []api.Entry {
	t.Helper()
	unchanged(t)
	es := slices.Clone(got)
	spoil(got)
	unchanged(t)
	return es
}

func holdLog(t *testing.T, what string, got, want Log, unchanged func(t *testing.T)) Log {
	t.Helper()
	got.Entries = holdNew(t, got.Entries, unchanged)
	if !sameLog(got, want) {
		t.Fatalf("%s: %v, not %v", what, got, want)
	}
	return got
}

func holdClone(t *testing.T, l Log) Log {
	t.Helper()
	g, unchanged := guardLog(l)
	return holdLog(t, "Clone", g.Clone(), l, unchanged)
}

func holdTermAt(t *testing.T, l Log, i int) (int, bool) {
	t.Helper()
	g, unchanged := guardLog(l)
	term, ok := g.TermAt(i)
	unchanged(t)
	if want, known := slowTermAt(l, i); term != want || ok != known {
		t.Fatalf("TermAt(%d) of %v: %d, %v", i, l, term, ok)
	}
	return term, ok
}

func holdAfter(t *testing.T, l Log, i, most int) ([]api.Entry, bool) {
	t.Helper()
	g, unchanged := guardLog(l)
	got, ok := g.After(i, most)
	es := holdNew(t, got, unchanged)
	if want, known := slowAfter(l, i, most); !slices.Equal(es, want) || ok != known {
		t.Fatalf("After(%d, %d) of %v: %v, %v", i, most, l, es, ok)
	}
	return es, ok
}

func holdAdd(t *testing.T, l Log, term int, c api.Cmd) Log {
	t.Helper()
	g, unchanged := guardLog(l)
	return holdLog(t, "Add", g.Add(term, c), slowAdd(l, term, c), unchanged)
}

func holdCompact(t *testing.T, l Log, i int) Log {
	t.Helper()
	g, unchanged := guardLog(l)
	return holdLog(t, "Compact", g.Compact(i), slowCompact(l, i), unchanged)
}

func holdNewer(t *testing.T, l Log, index, term int) bool {
	t.Helper()
	g, unchanged := guardLog(l)
	got := g.Newer(index, term)
	unchanged(t)
	if got != slowNewer(l, index, term) {
		t.Fatalf("Newer(%d, %d) of %v: %v", index, term, l, got)
	}
	return got
}

func holdMerge(t *testing.T, l Log, prev, term int, es []api.Entry) (Log, bool) {
	t.Helper()
	g, unchanged := guardLog(l)
	given, same := guard(es)
	got, ok := g.Merge(prev, term, given)
	want, merged := slowMerge(l, prev, term, es)
	if ok != merged {
		t.Fatalf("Merge(%d, %d, %v) of %v: %v", prev, term, es, l, ok)
	}
	return holdLog(t, "Merge", got, want, func(t *testing.T) {
		t.Helper()
		unchanged(t)
		same(t)
	}), ok
}

// maker makes logs and entries of numbers below a given one.
type maker struct {
	next func(n int) int
}

func (m maker) number() int {
	if m.next(4) == 0 {
		return numbers[m.next(len(numbers))]
	}
	return m.next(12)
}

func (m maker) cmd() api.Cmd {
	if m.next(4) == 0 {
		return api.Cmd{}
	}
	return api.Cmd{Op: api.Put + api.Op(m.next(3)), Client: m.next(4), Seq: m.next(9), Key: string(rune('a' + m.next(5)))}
}

// row is entries from an index on, of terms that do not fall from one on.
func (m maker) row(from, term, most int) []api.Entry {
	var es []api.Entry
	for n := range m.next(most + 1) {
		if m.next(3) == 0 {
			term += 1 + m.next(2)
		}
		es = append(es, api.Entry{Index: from + n, Term: term, Cmd: m.cmd()})
	}
	return es
}

// log is one that is valid.
func (m maker) log() Log {
	l := Log{Base: m.next(6), Term: m.next(3)}
	if m.next(16) == 0 {
		l.Base = million - m.next(3)
	}
	l.Entries = m.row(l.Base+1, l.Term, min(6, million-l.Base))
	return l
}

// wrong changes one field of one entry.
func (m maker) wrong(es []api.Entry) []api.Entry {
	if len(es) == 0 {
		return es
	}
	e := &es[m.next(len(es))]
	switch m.next(5) {
	case 0:
		e.Index = m.number()
	case 1:
		e.Term = m.number()
	case 2:
		e.Cmd = bad[m.next(len(bad))]
	case 3:
		e.Index++
	case 4:
		e.Term--
	}
	return es
}

// sent is what could come of another's log that has some of the entries that this one has: prev, its term, and the entries behind it.
func (m maker) sent(l Log) (int, int, []api.Entry) {
	other := l.Clone()
	if n := len(l.Entries); n > 0 && m.next(2) == 0 {
		other.Entries = other.Entries[:m.next(n+1)]
	}
	term := other.LastTerm() + m.next(2)
	other.Entries = append(other.Entries, m.row(other.Last()+1, term, 4)...)
	if m.next(3) == 0 {
		before := m.next(l.Base + 1)
		if before < l.Base-10 {
			before = l.Base
		}
		var es []api.Entry
		for i := before + 1; i <= l.Base; i++ {
			es = append(es, api.Entry{Index: i, Term: 0})
		}
		other = Log{before, m.next(3), append(es, other.Entries...)}
	}
	prev := other.Base + m.next(len(other.Entries)+1)
	es, _ := slowAfter(other, prev, m.next(8))
	known, _ := slowTermAt(other, prev)
	switch m.next(8) {
	case 0:
		known += 1 - m.next(3)
	case 1:
		es = m.wrong(es)
	case 2:
		prev = m.number()
	}
	return prev, known, es
}

// tally counts what the random tests came by.
type tally struct {
	right, wrong                int
	known, unknown              int
	none, some, all             int // of After
	compacted, left             int
	newer, older                int
	noRow, noPrev, otherTerm    int // why Merge is refused
	same, longer, other, shrunk int // what Merge did
	omittedAll, omitted, before int // how many elements stood up to Base
}

func (n *tally) merge(l Log, prev, term int, es []api.Entry, m Log, ok bool) {
	if !ok {
		_, known := slowTermAt(l, prev)
		switch {
		case !slowRow(es, prev+1):
			n.noRow++
		case !known:
			n.noPrev++
		default:
			n.otherTerm++
		}
		return
	}
	switch {
	case sameLog(l, m):
		n.same++
	case len(m.Entries) < len(l.Entries):
		n.shrunk++
	case slices.Equal(l.Entries, m.Entries[:len(l.Entries)]):
		n.longer++
	default:
		n.other++
	}
	if prev < l.Base {
		switch {
		case len(es) == 0 || es[len(es)-1].Index <= l.Base:
			n.omittedAll++
		case es[0].Index <= l.Base:
			n.omitted++
		}
	} else {
		n.before++
	}
}

func (n *tally) after(l Log, es []api.Entry, i int, ok bool) {
	switch {
	case !ok:
	case len(es) == 0:
		n.none++
	case es[len(es)-1].Index == slowLast(l):
		n.all++
	default:
		n.some++
	}
}

func count(yes bool, some, others *int) {
	if yes {
		*some++
	} else {
		*others++
	}
}

// near is mostly an index that the log knows, or one beside those.
func (m maker) near(l Log) int {
	if m.next(8) == 0 {
		return m.number()
	}
	return l.Base - 1 + m.next(len(l.Entries)+3)
}

func holdAll(t *testing.T, m maker, n *tally) {
	t.Helper()
	l := m.log()
	if !holdRight(t, l) {
		t.Fatalf("%v is not made as it should be", l)
	}
	bad := Log{m.number(), m.number(), m.wrong(m.log().Entries)}
	count(holdRight(t, bad), &n.right, &n.wrong)
	bad = holdClone(t, l)
	bad.Entries = m.wrong(bad.Entries)
	count(holdRight(t, bad), &n.right, &n.wrong)

	holdEnds(t, l)
	i := m.near(l)
	_, ok := holdTermAt(t, l, i)
	count(ok, &n.known, &n.unknown)
	es, ok := holdAfter(t, l, i, m.number())
	n.after(l, es, i, ok)
	holdAdd(t, l, m.number(), m.cmd())
	count(holdCompact(t, l, i).Base == l.Base, &n.left, &n.compacted)
	count(holdNewer(t, l, m.near(l), m.next(6)), &n.newer, &n.older)
	for range 3 {
		prev, term, es := m.sent(l)
		merged, ok := holdMerge(t, l, prev, term, es)
		n.merge(l, prev, term, es, merged, ok)
	}
}

func TestAsTheSlowFunctions(t *testing.T) {
	m := maker{rand.New(rand.NewPCG(13, 1)).IntN}
	var n tally
	for range 30000 {
		holdAll(t, m, &n)
	}
	for what, count := range map[string]int{
		"right": n.right, "wrong": n.wrong, "known": n.known, "unknown": n.unknown,
		"after, none": n.none, "after, some": n.some, "after, all": n.all,
		"compacted": n.compacted, "not compacted": n.left, "newer": n.newer, "older": n.older,
		"no row": n.noRow, "prev not known": n.noPrev, "prev of another term": n.otherTerm,
		"same": n.same, "longer": n.longer, "other": n.other, "shrunk": n.shrunk,
		"all omitted": n.omittedAll, "some omitted": n.omitted, "none omitted": n.before,
	} {
		if count < 500 {
			t.Errorf("%s: only %d", what, count)
		}
	}
}

// holdWrong calls all functions of a log that may not be one: of these nothing is promised but that they answer, and change nothing.
func holdWrong(t *testing.T, m maker, l Log) {
	t.Helper()
	holdRight(t, l)
	g, unchanged := guardLog(l)
	g.Last()
	g.LastTerm()
	spoil(g.Clone().Entries)
	i := m.near(l)
	g.TermAt(i)
	es, _ := g.After(i, m.number())
	spoil(es)
	spoil(g.Add(m.number(), m.cmd()).Entries)
	spoil(g.Compact(i).Entries)
	g.Newer(m.number(), m.number())
	from := m.number()
	given, same := guard(m.row(from+1, m.number(), 6))
	merged, _ := g.Merge(from, m.number(), given)
	spoil(merged.Entries)
	unchanged(t)
	same(t)
}

func TestLogsThatAreNotValid(t *testing.T) {
	m := maker{rand.New(rand.NewPCG(13, 2)).IntN}
	for range 10000 {
		l := Log{m.number(), m.number(), m.log().Entries}
		for range m.next(3) {
			l.Entries = m.wrong(l.Entries)
		}
		holdWrong(t, m, l)
	}
}

// FuzzLog holds the functions against the slow ones, for logs of any kind.
func FuzzLog(f *testing.F) {
	f.Add([]byte{0})
	f.Add([]byte("a log, an index, a command, and entries that come"))
	f.Fuzz(func(t *testing.T, numbers []byte) {
		at := 0
		next := func(n int) int {
			if len(numbers) == 0 {
				return 0
			}
			at++
			return (int(numbers[at%len(numbers)]) + at/len(numbers)) % n
		}
		m := maker{next}
		holdAll(t, m, new(tally))
		holdWrong(t, m, Log{m.number(), m.number(), m.wrong(m.log().Entries)})
	})
}
