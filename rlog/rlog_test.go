package rlog

import (
	"math"
	"slices"
	"strings"
	"testing"

	"tephra/api"
)

// million is the greatest index and term, as the document writes it.
const million = 1 << 20

// numbers are ordinary ones, those at the edges, and wrong ones.
var numbers = []int{math.MinInt, math.MinInt + 1, -1 << 32, -million, -2, -1, 0, 1, 2, 3, 7, 255, 256, million - 1, million, million + 1, 1 << 32, 1<<32 + 1, math.MaxInt - 1, math.MaxInt}

// put is a command by its value, so that two of one index may be told apart.
func put(value string) api.Cmd {
	return api.Cmd{Op: api.Put, Client: 1, Seq: 2, Key: "k", Value: value}
}

// bad are commands that may not be.
var bad = []api.Cmd{
	{Op: api.Ops, Key: "k"},
	{Op: -1, Key: "k"},
	{Key: "k"},
	{Op: api.Put},
	{Op: api.Put, Key: "123456789"},
	{Op: api.Put, Key: "k", Client: 4},
	{Op: api.Del, Key: "k", Seq: -1},
	{Op: api.Swap, Key: "k", Seq: million + 1},
	{Op: api.Swap, Key: "k", Old: strings.Repeat("o", 17)},
}

// row are entries from an index on, of these terms; their commands tell their indices.
func row(from int, terms ...int) []api.Entry {
	var es []api.Entry
	for n, term := range terms {
		es = append(es, api.Entry{Index: from + n, Term: term, Cmd: put(string(rune('a' + n)))})
	}
	return es
}

// logOf is a log by its base, its term, and the terms of its entries.
func logOf(base, term int, terms ...int) Log {
	return Log{base, term, row(base+1, terms...)}
}

// five is the log from which most tests go out: it knows the indices 3 to 8.
func five() Log {
	return logOf(3, 2, 2, 4, 4, 5, 7)
}

func repeat(n, term int) []int {
	return slices.Repeat([]int{term}, n)
}

func wantRight(t *testing.T, l Log, want bool) {
	t.Helper()
	if got := holdRight(t, l); got != want {
		t.Fatalf("Right of %v: %v", l, got)
	}
}

func wantEnds(t *testing.T, l Log, last, term int) {
	t.Helper()
	if gotLast, gotTerm := holdEnds(t, l); gotLast != last || gotTerm != term {
		t.Fatalf("%v: Last %d, LastTerm %d, not %d and %d", l, gotLast, gotTerm, last, term)
	}
}

func wantTermAt(t *testing.T, l Log, i, want int) {
	t.Helper()
	if term, ok := holdTermAt(t, l, i); term != want || !ok {
		t.Fatalf("TermAt(%d) of %v: %d, %v, not %d", i, l, term, ok, want)
	}
}

func wantNoTerm(t *testing.T, l Log, i int) {
	t.Helper()
	if term, ok := holdTermAt(t, l, i); term != 0 || ok {
		t.Fatalf("TermAt(%d) of %v: %d, %v", i, l, term, ok)
	}
}

func wantAfter(t *testing.T, l Log, i, most int, want []api.Entry) {
	t.Helper()
	if es, ok := holdAfter(t, l, i, most); !slices.Equal(es, want) || !ok {
		t.Fatalf("After(%d, %d) of %v: %v, %v, not %v", i, most, l, es, ok, want)
	}
}

func wantNone(t *testing.T, l Log, i, most int) {
	t.Helper()
	if es, ok := holdAfter(t, l, i, most); len(es) != 0 || ok {
		t.Fatalf("After(%d, %d) of %v: %v, %v", i, most, l, es, ok)
	}
}

func wantLog(t *testing.T, got, want Log) {
	t.Helper()
	if !sameLog(got, want) {
		t.Fatalf("%v, not %v", got, want)
	}
}

func wantNewer(t *testing.T, l Log, index, term int, want bool) {
	t.Helper()
	if got := holdNewer(t, l, index, term); got != want {
		t.Fatalf("Newer(%d, %d) of %v: %v", index, term, l, got)
	}
}

// wantMerge fails unless entries behind an index of this term make this log.
func wantMerge(t *testing.T, l Log, prev, term int, es []api.Entry, want Log) {
	t.Helper()
	got, ok := holdMerge(t, l, prev, term, es)
	if !sameLog(got, want) || !ok {
		t.Fatalf("Merge(%d, %d, %v) of %v: %v, %v, not %v", prev, term, es, l, got, ok, want)
	}
}

// wantRefused fails unless entries are refused, and the log is as it was.
func wantRefused(t *testing.T, l Log, prev, term int, es []api.Entry) {
	t.Helper()
	if got, ok := holdMerge(t, l, prev, term, es); !sameLog(got, l) || ok {
		t.Fatalf("Merge(%d, %d, %v) of %v: %v, %v", prev, term, es, l, got, ok)
	}
}

// P13.1

func TestConstantsAreThoseOfTheDocument(t *testing.T) {
	if api.MaxEntry != million || api.Nop != 0 || api.Put != 1 || api.Del != 2 || api.Swap != 3 || api.Ops != 4 {
		t.Error("the promises name other numbers")
	}
}

func TestRightOfOrdinaryLogs(t *testing.T) {
	for _, l := range []Log{
		{},
		five(),
		logOf(0, 0, 0, 0, 1),
		logOf(0, 0, 1),
		logOf(0, 3, 3, 3, 9),
		logOf(9, 0, 0),
		{Base: 4, Term: 1, Entries: []api.Entry{{Index: 5, Term: 1}, {Index: 6, Term: 1, Cmd: api.Cmd{Op: api.Swap, Client: 3, Seq: million, Key: "12345678", Old: "1234567890123456"}}}},
	} {
		wantRight(t, l, true)
	}
}

func TestRightOfALogWithoutEntries(t *testing.T) {
	for _, base := range numbers {
		for _, term := range numbers {
			wantRight(t, Log{Base: base, Term: term}, base >= 0 && term >= 0)
			wantRight(t, Log{base, term, []api.Entry{}}, base >= 0 && term >= 0)
		}
	}
}

func TestRightOfANegativeBase(t *testing.T) {
	for _, base := range []int{-1, -2, -million, math.MinInt} {
		wantRight(t, Log{Base: base}, false)
		wantRight(t, Log{base, 0, row(1, 0, 0)}, false)
		wantRight(t, Log{base, 0, row(base+1, 0, 0)}, false)
	}
	wantRight(t, Log{0, 0, row(1, 0, 0)}, true)
}

func TestRightOfANegativeTerm(t *testing.T) {
	for _, term := range []int{-1, -2, -million, math.MinInt} {
		wantRight(t, Log{Term: term}, false)
		wantRight(t, logOf(0, term, 0, 0), false)
		wantRight(t, logOf(5, term, 3), false)
		wantRight(t, logOf(5, term, term), false)
	}
	wantRight(t, logOf(5, 0, 3), true)
}

func TestRightOfEntriesThatBeginElsewhere(t *testing.T) {
	for _, base := range []int{0, 1, 5, million - 2} {
		for from := base - 3; from < base+4; from++ {
			wantRight(t, Log{base, 1, row(from, 1)}, from == base+1)
			wantRight(t, Log{base, 1, row(from, 1, 2)}, from == base+1)
		}
	}
	for _, from := range numbers {
		wantRight(t, Log{255, 1, row(from, 1)}, from == 256)
		wantRight(t, Log{from, 1, row(256, 1)}, from == 255)
	}
}

func TestRightOfAnIndexLeftOut(t *testing.T) {
	for at := range 5 {
		l := five()
		l.Entries = slices.Delete(l.Entries, at, at+1)
		wantRight(t, l, at == 4)
	}
	for at := range 5 {
		l := five()
		l.Entries = slices.Insert(l.Entries, at, l.Entries[at])
		wantRight(t, l, false)
	}
	for at := range 4 {
		l := logOf(3, 2, 4, 4, 4, 4, 4)
		l.Entries[at], l.Entries[at+1] = l.Entries[at+1], l.Entries[at]
		wantRight(t, l, false)
	}
	for at := range 5 {
		for _, index := range numbers {
			l := five()
			l.Entries[at].Index = index
			wantRight(t, l, index == 4+at)
		}
	}
}

func TestRightOfEntriesThatMayNotBe(t *testing.T) {
	for at := range 5 {
		for _, c := range bad {
			l := five()
			l.Entries[at].Cmd = c
			wantRight(t, l, false)
		}
		l := five()
		l.Entries[at].Cmd = api.Cmd{}
		wantRight(t, l, true)
	}
	wantRight(t, logOf(0, 0, million), true)
	wantRight(t, logOf(0, 0, million+1), false)
	wantRight(t, logOf(0, million, million), true)
	wantRight(t, logOf(0, million+1, million+1), false)
	wantRight(t, logOf(million-1, 1, 1), true)
	wantRight(t, logOf(million-1, 1, 1, 1), false)
	wantRight(t, logOf(million, 1, 1), false)
	wantRight(t, logOf(math.MaxInt, 1, 1), false)
}

func TestRightOfTheFirstTerm(t *testing.T) {
	for term := range 5 {
		for first := range 6 {
			wantRight(t, logOf(7, term, first), first >= term)
			wantRight(t, logOf(7, term, first, 5), first >= term)
			wantRight(t, logOf(0, term, first), first >= term)
		}
	}
	for _, term := range numbers {
		wantRight(t, logOf(7, term, 2), term >= 0 && term <= 2)
	}
}

func TestRightOfTermsThatGoDown(t *testing.T) {
	for at := range 5 {
		for term := -1; term < 10; term++ {
			l := five()
			l.Entries[at].Term = term
			least, most := l.Term, million
			if at > 0 {
				least = l.Entries[at-1].Term
			}
			if at < 4 {
				most = l.Entries[at+1].Term
			}
			wantRight(t, l, term >= least && term <= most)
		}
	}
	wantRight(t, logOf(0, 0, 2, 2, 1), false)
	wantRight(t, logOf(0, 0, 2, 1, 2), false)
	wantRight(t, logOf(0, 0, 0, -1), false)
}

func TestRightOfSeveralFaults(t *testing.T) {
	wantRight(t, logOf(-1, -1, -1), false)
	wantRight(t, Log{-2, 3, []api.Entry{{Index: 5, Term: 2, Cmd: bad[0]}}}, false)
	wantRight(t, Log{0, 3, []api.Entry{{}, {}}}, false)
}

func TestLastAndLastTerm(t *testing.T) {
	wantEnds(t, Log{}, 0, 0)
	wantEnds(t, Log{Base: 7}, 7, 0)
	wantEnds(t, Log{Term: 7}, 0, 7)
	wantEnds(t, Log{7, 3, []api.Entry{}}, 7, 3)
	wantEnds(t, Log{Base: math.MaxInt, Term: math.MaxInt}, math.MaxInt, math.MaxInt)
	wantEnds(t, Log{Base: million, Term: million}, million, million)
	wantEnds(t, logOf(0, 0, 0), 1, 0)
	wantEnds(t, logOf(0, 0, 1), 1, 1)
	wantEnds(t, logOf(7, 3, 3), 8, 3)
	wantEnds(t, logOf(7, 3, 4, 5), 9, 5)
	wantEnds(t, five(), 8, 7)
	wantEnds(t, logOf(million-2, 3, 4, million), million, million)
}

func TestClone(t *testing.T) {
	for _, l := range []Log{{}, {Base: 7, Term: 3}, {7, 3, []api.Entry{}}, five(), logOf(million, 1), {Base: math.MaxInt, Term: math.MaxInt}} {
		wantLog(t, holdClone(t, l), l)
	}
}

func TestACloneIsALogOfItsOwn(t *testing.T) {
	l := five()
	m := l.Clone()
	m.Base, m.Term = 9, 9
	m.Entries[0].Term = 9
	m.Entries = append(m.Entries[:2], mark)
	wantLog(t, l, five())
	m = l.Clone()
	l.Entries[4] = mark
	l.Entries[0].Cmd.Key = "x"
	wantLog(t, m, five())
}

func TestTermAtOfEachIndex(t *testing.T) {
	l := five()
	for i, term := range []int{2, 2, 4, 4, 5, 7} {
		wantTermAt(t, l, 3+i, term)
	}
	for _, i := range []int{math.MinInt, -4, -1, 0, 1, 2, 9, 10, 100, math.MaxInt} {
		wantNoTerm(t, l, i)
	}
}

func TestTermAtOfALogFromItsStart(t *testing.T) {
	l := logOf(0, 0, 1, 1, 2)
	for i, term := range []int{0, 1, 1, 2} {
		wantTermAt(t, l, i, term)
	}
	wantNoTerm(t, l, -1)
	wantNoTerm(t, l, 4)
	l = logOf(0, 5, 6)
	wantTermAt(t, l, 0, 5)
	wantTermAt(t, l, 1, 6)
}

func TestTermAtOfALogWithoutEntries(t *testing.T) {
	for _, base := range numbers {
		l := Log{Base: base, Term: 6}
		if base < 0 {
			continue
		}
		for _, i := range numbers {
			if i == base {
				wantTermAt(t, l, i, 6)
			} else {
				wantNoTerm(t, l, i)
			}
		}
		wantNoTerm(t, l, base+1)
		wantNoTerm(t, l, base-1)
	}
}

func TestTermAtOfNumbersOfAnyKind(t *testing.T) {
	for _, l := range []Log{logOf(0, 0, 1, 2, 3), logOf(254, 1, 1, 2, 3), logOf(million-2, 1, 4, 5)} {
		for _, i := range numbers {
			holdTermAt(t, l, i)
			holdTermAt(t, l, math.MinInt+l.Base+i)
		}
	}
	wantTermAt(t, logOf(million-2, 1, 4, 5), million-2, 1)
	wantTermAt(t, logOf(million-2, 1, 4, 5), million, 5)
	wantNoTerm(t, logOf(million-2, 1, 4, 5), million+1)
}

// P13.2

func TestAfterOfEachIndex(t *testing.T) {
	l := five()
	for i := 3; i <= 8; i++ {
		for most := range 8 {
			wantAfter(t, l, i, most, l.Entries[i-3:min(5, i-3+most)])
		}
		wantAfter(t, l, i, 8-i, l.Entries[i-3:])
		wantAfter(t, l, i, 8-i+1, l.Entries[i-3:])
		wantAfter(t, l, i, math.MaxInt, l.Entries[i-3:])
		for _, most := range []int{-1, -2, -5, math.MinInt} {
			wantAfter(t, l, i, most, nil)
		}
	}
}

func TestAfterOfIndicesThatAreNotKnown(t *testing.T) {
	l := five()
	for _, i := range []int{2, 1, 0, -1, math.MinInt, 9, 10, 100, million, math.MaxInt} {
		for _, most := range []int{math.MinInt, -1, 0, 1, 5, math.MaxInt} {
			wantNone(t, l, i, most)
		}
	}
}

func TestAfterOfALogWithoutEntries(t *testing.T) {
	for _, base := range []int{0, 1, 7, million, math.MaxInt} {
		for _, most := range numbers {
			wantAfter(t, Log{Base: base, Term: 1}, base, most, nil)
			wantNone(t, Log{Base: base, Term: 1}, base-1, most)
			wantNone(t, Log{Base: base, Term: 1}, base+1, most)
		}
	}
}

func TestAfterOfNumbersOfAnyKind(t *testing.T) {
	for _, l := range []Log{{}, logOf(0, 0, 1, 2, 3), logOf(254, 1, 1, 2, 3), logOf(million-2, 1, 4, 5), {Base: math.MaxInt}} {
		for _, i := range numbers {
			for _, most := range numbers {
				holdAfter(t, l, i, most)
			}
		}
	}
}

func TestAdd(t *testing.T) {
	wantLog(t, holdAdd(t, Log{}, 0, api.Cmd{}), Log{0, 0, []api.Entry{{Index: 1}}})
	wantLog(t, holdAdd(t, Log{}, 3, put("v")), Log{0, 0, []api.Entry{{Index: 1, Term: 3, Cmd: put("v")}}})
	wantLog(t, holdAdd(t, Log{7, 2, nil}, 2, put("v")), Log{7, 2, []api.Entry{{Index: 8, Term: 2, Cmd: put("v")}}})
	wantLog(t, holdAdd(t, Log{7, 2, []api.Entry{}}, 3, api.Cmd{}), Log{7, 2, []api.Entry{{Index: 8, Term: 3}}})
	wantLog(t, holdAdd(t, logOf(7, 2, 2), 2, put("b")), logOf(7, 2, 2, 2))
	wantLog(t, holdAdd(t, five(), 7, put("f")), logOf(3, 2, 2, 4, 4, 5, 7, 7))
	wantLog(t, holdAdd(t, five(), 9, put("f")), logOf(3, 2, 2, 4, 4, 5, 7, 9))
	wantLog(t, holdAdd(t, logOf(million-2, 1, 1), 1, put("b")), logOf(million-2, 1, 1, 1))
}

// TestAddAnything: nothing is said of what Add refuses.
func TestAddAnything(t *testing.T) {
	for _, term := range numbers {
		for _, c := range append(bad, api.Cmd{}, put("v")) {
			for _, l := range []Log{{}, five(), logOf(million-1, 1, 1), {Base: math.MaxInt - 1}} {
				m := holdAdd(t, l, term, c)
				if n := len(l.Entries); m.Entries[n] != (api.Entry{Index: l.Base + n + 1, Term: term, Cmd: c}) {
					t.Fatalf("%v", m.Entries[n])
				}
			}
		}
	}
}

func TestAddTwoToOneLog(t *testing.T) {
	l := five()
	l.Entries = slices.Grow(l.Entries, 8)
	m, n := l.Add(7, put("m")), l.Add(8, put("n"))
	if m.Entries[5].Cmd != put("m") || n.Entries[5].Cmd != put("n") || m.Entries[5].Term != 7 {
		t.Errorf("%v, %v", m, n)
	}
	m2, m3 := m.Add(9, put("2")), m.Add(9, put("3"))
	if m2.Entries[6].Cmd != put("2") || m3.Entries[6].Cmd != put("3") || len(m.Entries) != 6 {
		t.Errorf("%v, %v", m2, m3)
	}
}

func TestCompact(t *testing.T) {
	l := five()
	wantLog(t, holdCompact(t, l, 3), l)
	wantLog(t, holdCompact(t, l, 4), Log{4, 2, l.Entries[1:]})
	wantLog(t, holdCompact(t, l, 5), Log{5, 4, l.Entries[2:]})
	wantLog(t, holdCompact(t, l, 6), Log{6, 4, l.Entries[3:]})
	wantLog(t, holdCompact(t, l, 7), Log{7, 5, l.Entries[4:]})
	wantLog(t, holdCompact(t, l, 8), Log{Base: 8, Term: 7})
}

func TestCompactAtIndicesThatAreNotKnown(t *testing.T) {
	for _, i := range []int{math.MinInt, -1, 0, 1, 2, 9, 10, million, math.MaxInt} {
		wantLog(t, holdCompact(t, five(), i), five())
	}
	for _, base := range []int{0, 7, million, math.MaxInt} {
		l := Log{Base: base, Term: 3}
		for _, i := range numbers {
			wantLog(t, holdCompact(t, l, i), l)
		}
		wantLog(t, holdCompact(t, l, base), l)
		wantLog(t, holdCompact(t, l, base+1), l)
		wantLog(t, holdCompact(t, l, base-1), l)
	}
}

func TestCompactLeavesWhatIsKnown(t *testing.T) {
	for i := 3; i <= 8; i++ {
		m := holdCompact(t, five(), i)
		wantRight(t, m, true)
		wantEnds(t, m, 8, 7)
		wantNoTerm(t, m, i-1)
		for at := i; at <= 8; at++ {
			want, _ := holdTermAt(t, five(), at)
			wantTermAt(t, m, at, want)
		}
	}
}

func TestNewer(t *testing.T) {
	l := five()
	wantNewer(t, l, 3, 8, true)
	wantNewer(t, l, 0, 8, true)
	wantNewer(t, l, 8, 8, true)
	wantNewer(t, l, 9, 8, true)
	wantNewer(t, l, 7, 7, false)
	wantNewer(t, l, 8, 7, true)
	wantNewer(t, l, 9, 7, true)
	wantNewer(t, l, 7, 6, false)
	wantNewer(t, l, 8, 6, false)
	wantNewer(t, l, 9, 6, false)
	wantNewer(t, l, math.MaxInt, 6, false)
	wantNewer(t, l, math.MinInt, 8, true)
	wantNewer(t, l, math.MinInt, math.MaxInt, true)
	wantNewer(t, l, math.MaxInt, math.MinInt, false)
}

func TestNewerThanALogWithoutEntries(t *testing.T) {
	wantNewer(t, Log{}, 0, 0, true)
	wantNewer(t, Log{}, -1, 0, false)
	wantNewer(t, Log{}, 1, 0, true)
	wantNewer(t, Log{}, 1, -1, false)
	wantNewer(t, Log{}, -1, 1, true)
	l := Log{Base: 7, Term: 3}
	wantNewer(t, l, 6, 3, false)
	wantNewer(t, l, 7, 3, true)
	wantNewer(t, l, 8, 3, true)
	wantNewer(t, l, 6, 4, true)
	wantNewer(t, l, 8, 2, false)
}

func TestNewerOfNumbersOfAnyKind(t *testing.T) {
	for _, l := range []Log{{}, five(), logOf(254, 1, 2), logOf(million-1, 1, million), {Base: math.MaxInt, Term: math.MaxInt}} {
		for _, index := range numbers {
			for _, term := range numbers {
				holdNewer(t, l, index, term)
			}
		}
	}
}

// P13.3

func TestMergeOfTheExample(t *testing.T) {
	l := logOf(0, 0, 1, 1, 2)
	e := api.Entry{Index: 2, Term: 3, Cmd: put("v")}
	wantMerge(t, l, 1, 1, []api.Entry{e}, Log{0, 0, []api.Entry{l.Entries[0], e}})
}

func TestMergeOfNoElements(t *testing.T) {
	l := five()
	for _, none := range [][]api.Entry{nil, {}} {
		for i, term := range []int{2, 2, 4, 4, 5, 7} {
			wantMerge(t, l, 3+i, term, none, l)
			wantRefused(t, l, 3+i, term+1, none)
			wantRefused(t, l, 3+i, term-1, none)
		}
		for _, prev := range []int{9, 10, million, math.MaxInt - 1, math.MaxInt} {
			wantRefused(t, l, prev, 0, none)
			wantRefused(t, l, prev, 7, none)
		}
		for _, prev := range []int{2, 1, 0, -1, math.MinInt} {
			wantMerge(t, l, prev, 2, none, l)
			wantMerge(t, l, prev, 9, none, l)
			wantMerge(t, l, prev, -9, none, l)
		}
	}
}

func TestMergeIntoALogWithoutEntries(t *testing.T) {
	wantMerge(t, Log{}, 0, 0, row(1, 0, 1), logOf(0, 0, 0, 1))
	wantRefused(t, Log{}, 0, 1, row(1, 1))
	wantRefused(t, Log{}, 1, 0, row(2, 1))
	l := Log{Base: 7, Term: 3}
	wantMerge(t, l, 7, 3, row(8, 3, 4), logOf(7, 3, 3, 4))
	wantMerge(t, l, 5, 9, row(6, 1, 2, 3), Log{7, 3, row(6, 1, 2, 3)[2:]})
	wantMerge(t, l, 5, 9, row(6, 1, 2), l)
	wantRefused(t, l, 8, 3, row(9, 3))
	wantRefused(t, l, 7, 2, row(8, 3))
	for _, base := range []int{0, million, math.MaxInt} {
		wantMerge(t, Log{Base: base, Term: 3}, base, 3, nil, Log{Base: base, Term: 3})
		wantRefused(t, Log{Base: base, Term: 3}, base, 2, nil)
	}
	wantRefused(t, Log{Base: million, Term: 3}, million, 3, row(million+1, 3))
	wantRefused(t, Log{Base: math.MaxInt, Term: 3}, math.MaxInt, 3, row(math.MinInt, 3))
}

func TestMergeOfElementsThatAreNoRow(t *testing.T) {
	l := five()
	good := row(6, 5, 6, 6)
	wantMerge(t, l, 5, 4, good, Log{3, 2, append(l.Entries[:2:2], good...)})
	for at := range good {
		for _, c := range bad {
			es := slices.Clone(good)
			es[at].Cmd = c
			wantRefused(t, l, 5, 4, es)
		}
		for _, index := range numbers {
			es := slices.Clone(good)
			es[at].Index = index
			if index != 6+at {
				wantRefused(t, l, 5, 4, es)
			}
		}
	}
	wantRefused(t, l, 5, 4, row(6, 5, 6, 5))
	wantRefused(t, l, 5, 4, row(6, 6, 5, 6))
	wantRefused(t, l, 5, 4, row(6, -1))
	wantRefused(t, l, 5, 4, row(6, million+1))
	wantRefused(t, l, 5, 4, []api.Entry{good[0], good[2]})
	wantRefused(t, l, 5, 4, []api.Entry{good[0], good[0]})
	wantRefused(t, l, 5, 4, []api.Entry{good[1], good[0]})
	wantRefused(t, l, 5, 4, []api.Entry{{}})
}

// TestMergeOfNoRowIsRefusedAlthoughTheRestWouldDo: also what is there already, or stands up to the base, must be of the row.
func TestMergeOfNoRowIsRefusedAlthoughTheRestWouldDo(t *testing.T) {
	l := five()
	es := slices.Clone(l.Entries)
	es[1].Cmd = bad[0]
	wantRefused(t, l, 3, 2, es)
	es = row(1, 1, 1, 1, 2)
	wantMerge(t, l, 0, 0, es, l)
	es[0].Cmd = bad[0]
	wantRefused(t, l, 0, 0, es)
	wantRefused(t, l, 0, 0, row(1, 3, 1, 1, 2))
	wantRefused(t, l, -1, 0, row(0, 1, 1, 1, 1, 2))
	wantRefused(t, l, 0, 0, row(1, million+1))
}

func TestMergeOfARowFromAnotherIndex(t *testing.T) {
	l := five()
	for prev := range 12 {
		for from := range 12 {
			es := row(from, 7, 7, 7)
			known, ok := slowTermAt(l, prev)
			if from != prev+1 || prev > 8 {
				wantRefused(t, l, prev, known, es)
			} else if _, merged := holdMerge(t, l, prev, known, es); !merged && (ok || prev < l.Base) {
				t.Errorf("prev %d: refused", prev)
			}
		}
	}
	wantRefused(t, l, 8, 7, l.Entries)
	wantRefused(t, l, 3, 2, l.Entries[1:])
	wantRefused(t, l, 4, 2, l.Entries)
}

func TestMergeBelowTheBaseOmitsAll(t *testing.T) {
	l := five()
	for _, term := range []int{math.MinInt, -1, 0, 1, 2, 3, 7, math.MaxInt} {
		wantMerge(t, l, 0, term, row(1, 1), l)
		wantMerge(t, l, 0, term, row(1, 9, 9, 9), l)
		wantMerge(t, l, 1, term, row(2, 0, 0), l)
		wantMerge(t, l, 2, term, row(3, 8), l)
	}
}

func TestMergeBelowTheBaseOmitsSome(t *testing.T) {
	l := five()
	for _, term := range []int{math.MinInt, -1, 0, 1, 2, 3, 7, math.MaxInt} {
		es := row(1, 1, 1, 2, 2)
		wantMerge(t, l, 0, term, es, l)
		es = row(1, 1, 1, 3, 3)
		wantMerge(t, l, 0, term, es, Log{3, 2, es[3:]})
		es = row(3, 2, 2, 4, 6)
		wantMerge(t, l, 2, term, es, Log{3, 2, append(l.Entries[:2:2], es[3])})
		es = row(2, 0, 0, 2, 4, 4, 5, 7, 8, 9)
		wantMerge(t, l, 1, term, es, Log{3, 2, append(l.Entries[:5:5], es[7:]...)})
	}
}

// TestMergeOfAPrevBelowTheBaseOfWhichNoneIsOmitted: there is nothing to omit where there are no elements; elements from prev + 1 on have one at or below Base.
func TestMergeOfAPrevBelowTheBaseOfWhichNoneIsOmitted(t *testing.T) {
	for _, prev := range []int{2, 0, -1, math.MinInt} {
		wantMerge(t, five(), prev, 2, nil, five())
		wantMerge(t, five(), prev, 3, nil, five())
	}
}

// TestMergeTakesTermsAsTheyAre: nothing is said of elements whose terms are less than the one ahead of them.
func TestMergeTakesTermsAsTheyAre(t *testing.T) {
	l := five()
	es := row(1, 0, 0, 0, 1)
	wantMerge(t, l, 0, 0, es, Log{3, 2, es[3:]})
	es = row(9, 1, 2)
	wantMerge(t, l, 8, 7, es, Log{3, 2, append(l.Entries[:5:5], es...)})
	es = row(6, 0)
	wantMerge(t, l, 5, 4, es, Log{3, 2, append(l.Entries[:2:2], es...)})
}

func TestMergeBehindTheBase(t *testing.T) {
	l := five()
	wantMerge(t, l, 3, 2, row(4, 3), logOf(3, 2, 3))
	wantMerge(t, l, 3, 2, row(4, 3, 9, 9, 9, 9, 9, 9), logOf(3, 2, 3, 9, 9, 9, 9, 9, 9))
	for _, term := range []int{-1, 0, 1, 3, 4, 7, math.MinInt, math.MaxInt} {
		wantRefused(t, l, 3, term, row(4, 3))
		wantRefused(t, l, 3, term, row(4, 2))
	}
}

func TestMergeBehindEachEntry(t *testing.T) {
	l := five()
	for n, term := range []int{2, 4, 4, 5, 7} {
		prev := 4 + n
		es := row(prev+1, 9, 9)
		wantMerge(t, l, prev, term, es, Log{3, 2, append(l.Entries[:n+1:n+1], es...)})
		for wrong := range 10 {
			if wrong != term {
				wantRefused(t, l, prev, wrong, es)
			}
		}
		wantRefused(t, l, prev, -term, es)
	}
}

func TestMergeBehindTheLast(t *testing.T) {
	l := five()
	wantMerge(t, l, 8, 7, row(9, 7), Log{3, 2, append(l.Entries[:5:5], row(9, 7)...)})
	wantMerge(t, l, 8, 7, row(9, 8, 9, 9), Log{3, 2, append(l.Entries[:5:5], row(9, 8, 9, 9)...)})
	for _, term := range []int{0, 2, 7} {
		wantRefused(t, l, 9, term, row(10, 7))
		wantRefused(t, l, 10, term, row(11, 7))
		wantRefused(t, l, million-1, term, row(million, 7))
	}
}

func TestMergeOfWhatIsThereAlready(t *testing.T) {
	l := five()
	for from := range 6 {
		for to := from; to < 6; to++ {
			term, _ := slowTermAt(l, 3+from)
			wantMerge(t, l, 3+from, term, l.Entries[from:to], l)
		}
	}
}

// TestMergeKeepsTheCommandThatIsThere: elements are held against entries by Index and Term alone.
func TestMergeKeepsTheCommandThatIsThere(t *testing.T) {
	l := five()
	es := slices.Clone(l.Entries)
	for at := range es {
		es[at].Cmd = api.Cmd{}
	}
	wantMerge(t, l, 3, 2, es, l)
	wantMerge(t, l, 3, 2, es[:3], l)
	es = append(es, api.Entry{Index: 9, Term: 7})
	wantMerge(t, l, 3, 2, es, Log{3, 2, append(l.Entries[:5:5], es[5])})
	es[3].Term = 4
	wantMerge(t, l, 3, 2, es, Log{3, 2, append(l.Entries[:3:3], es[3:]...)})
}

func TestMergeOfWhichTheFirstAreThere(t *testing.T) {
	l := five()
	es := append(slices.Clone(l.Entries[2:]), row(9, 7, 8)...)
	wantMerge(t, l, 5, 4, es, Log{3, 2, append(l.Entries[:5:5], row(9, 7, 8)...)})
	es = append(slices.Clone(l.Entries), row(9, 9)...)
	wantMerge(t, l, 3, 2, es, Log{3, 2, es})
}

// TestMergeOfOneThatIsOther: from the first one on that is of another term, all goes, however much stands behind it.
func TestMergeOfOneThatIsOther(t *testing.T) {
	for at := range 5 {
		for behind := range 5 - at {
			l := logOf(3, 2, 2, 2, 2, 2, 2)
			es := row(4, repeat(at+1+behind, 2)...)
			for n := at; n < len(es); n++ {
				es[n].Term = 3
				es[n].Cmd = put("other")
			}
			wantMerge(t, l, 3, 2, es, Log{3, 2, append(l.Entries[:at:at], es[at:]...)})
		}
	}
}

// TestMergeCutsAlthoughTheNextOnesAreAlike: what stood behind an entry that goes is gone too, also where an element of its term comes next, so the elements' commands count.
func TestMergeCutsAlthoughTheNextOnesAreAlike(t *testing.T) {
	l := logOf(3, 2, 2, 4, 5, 5, 5)
	es := row(4, 2, 3, 5, 5)
	for at := range es {
		es[at].Cmd = put("new")
	}
	wantMerge(t, l, 3, 2, es, Log{3, 2, append(l.Entries[:1:1], es[1:]...)})
	es = row(5, 5)
	wantMerge(t, l, 4, 2, es, Log{3, 2, append(l.Entries[:1:1], es...)})
	es[0].Term = 3
	wantMerge(t, l, 4, 2, es, Log{3, 2, append(l.Entries[:1:1], es...)})
}

// TestMergeOfFewerThanTheLogHas: elements that come late take nothing away.
func TestMergeOfFewerThanTheLogHas(t *testing.T) {
	l := five()
	for n := range 5 {
		wantMerge(t, l, 3, 2, l.Entries[:n], l)
		wantMerge(t, l, 0, 9, append(row(1, 0, 0, 0), l.Entries[:n]...), l)
	}
}

func TestMergeUpToTheGreatestIndex(t *testing.T) {
	l := logOf(million-3, 1, 1)
	wantMerge(t, l, million-2, 1, row(million-1, 1, million), Log{million - 3, 1, append(l.Entries[:1:1], row(million-1, 1, million)...)})
	wantRefused(t, l, million-2, 1, row(million-1, 1, 1, 1))
}

func TestMergeOfSeveralFaults(t *testing.T) {
	l := five()
	wantRefused(t, l, 9, 9, []api.Entry{{}, mark})
	wantRefused(t, l, 9, 0, row(4, 1))
	wantRefused(t, l, math.MaxInt, math.MaxInt, row(math.MinInt, 3, 2))
	wantRefused(t, l, math.MinInt, math.MinInt, row(math.MinInt+1, -1))
}

func TestMergeOfNumbersOfAnyKind(t *testing.T) {
	for _, l := range []Log{{}, five(), logOf(254, 1, 2, 2, 2), logOf(million-2, 1, 1, million), {Base: math.MaxInt, Term: 1}} {
		for _, prev := range numbers {
			for _, term := range numbers {
				for _, es := range [][]api.Entry{nil, row(prev+1, 2), row(prev+1, 1, 2, 2, 3), row(prev, 1)} {
					holdMerge(t, l, prev, term, es)
				}
			}
		}
	}
}

// TestALogAndItsEntriesOfOneArray: entries that are sent to a log may be a piece of its own.
func TestALogAndItsEntriesOfOneArray(t *testing.T) {
	l := five()
	for from := range 6 {
		term, _ := l.TermAt(3 + from)
		got, ok := l.Merge(3+from, term, l.Entries[from:])
		if !ok || !sameLog(got, five()) {
			t.Fatalf("%v, %v", got, ok)
		}
		spoil(got.Entries)
		wantLog(t, l, five())
	}
}

func TestAnswersKeepNothing(t *testing.T) {
	l, es := five(), row(6, 6, 6)
	want := Log{3, 2, append(l.Entries[:2:2], row(6, 6, 6)...)}
	merged, _ := l.Merge(5, 4, es)
	refused, _ := l.Merge(5, 5, es)
	noRow, _ := l.Merge(6, 4, es)
	same, _ := l.Merge(3, 2, l.Entries)
	compacted, whole, unknown := l.Compact(7), l.Compact(3), l.Compact(9)
	after, _ := l.After(3, 9)
	added, clone := l.Add(9, api.Cmd{}), l.Clone()
	spoil(l.Entries)
	spoil(es)
	wantLog(t, merged, want)
	for _, m := range []Log{refused, noRow, same, whole, unknown, clone, {3, 2, after}, {3, 2, added.Entries[:5]}} {
		wantLog(t, m, five())
	}
	wantLog(t, compacted, Log{7, 5, five().Entries[4:]})
}

// long is a log of many entries, whose terms rise from time to time.
func long(n int) Log {
	l := Log{Base: 1, Entries: make([]api.Entry, n)}
	for at := range l.Entries {
		l.Entries[at] = api.Entry{Index: at + 2, Term: at / 1000}
	}
	return l
}

func TestManyEntries(t *testing.T) {
	l := long(million - 1)
	if !Right(l) || Right(long(million)) {
		t.Error("Right tells otherwise")
	}
	l = long(1 << 17)
	half := len(l.Entries) / 2
	if m, ok := l.Merge(1, 0, l.Entries); !ok || !sameLog(m, l) {
		t.Error("the same entries make another log")
	}
	if m, ok := (Log{}).Merge(0, 0, append([]api.Entry{{Index: 1}}, l.Entries...)); !ok || m.Last() != l.Last() {
		t.Error("entries are not appended")
	}
	other := slices.Clone(l.Entries)
	for at := half; at < len(other); at++ {
		other[at].Term++
	}
	if m, ok := l.Merge(1, 0, other); !ok || !slices.Equal(m.Entries, other) {
		t.Error("entries are not replaced")
	}
	if m := l.Compact(half); m.Base != half || !slices.Equal(m.Entries, l.Entries[half-1:]) {
		t.Error("a log is compacted otherwise")
	}
	for i := range l.Last() {
		if term, ok := l.TermAt(i + 1); !ok || term != max(0, i-1)/1000 {
			t.Fatalf("TermAt(%d): %d, %v", i+1, term, ok)
		}
	}
}
