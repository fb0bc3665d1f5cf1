package delta

import (
	"bytes"
	"fmt"
	"math"
	"slices"
	"strings"
	"testing"

	"tephra/api"
	"tephra/state"
)

// million is the greatest To, Term and Seq, as the document writes it.
const million = 1 << 20

// numbers are ordinary ones, those at the edges, and wrong ones.
var numbers = []int{math.MinInt, -1 << 32, -million, -2, -1, 0, 1, 2, 7, 255, 256, million - 1, million, million + 1, 1 << 32, 1<<32 + 1, math.MaxInt}

// some are the deltas that may be, from which the tests of bytes go out.
var some = []Delta{
	{},
	{To: 1},
	{From: 3, To: 3, Term: 1},
	{From: 1, To: 3, Term: 2, Pairs: []api.Pair{{Key: "k", Value: "v"}}},
	{From: 257, To: 258, Term: 259, Sessions: []api.Session{{Client: 2, Seq: 65537, Reply: api.Reply{Err: api.ErrMatch, Value: "was"}}}},
	{From: 2, To: 5, Term: 1,
		Pairs:    []api.Pair{{Key: "a"}, {Key: "a\x00", Value: "\x00"}, {Key: "b", Gone: true}, {Key: "\xff\xfe", Value: "\xff"}},
		Sessions: []api.Session{{Client: 1, Seq: 3, Reply: api.Reply{Value: "x"}}, {Client: 3, Seq: 0, Reply: api.Reply{Err: api.ErrFull}}}},
	{From: million, To: million, Term: million, Pairs: pairs(0, 512),
		Sessions: []api.Session{{}, {Client: 1}, {Client: 2, Seq: million}, {Client: 3, Seq: million, Reply: api.Reply{Err: api.ErrArgument, Value: "1234567890123456"}}}},
}

// put and gone are a pair with a value, and one without.
func put(key, value string) api.Pair {
	return api.Pair{Key: key, Value: value}
}

func gone(key string) api.Pair {
	return api.Pair{Key: key, Gone: true}
}

// pairs are those from a number up to another one, of rising keys.
func pairs(from, to int) []api.Pair {
	var ps []api.Pair
	for k := from; k < to; k++ {
		ps = append(ps, put(fmt.Sprintf("key %04d", k), fmt.Sprintf("the value of %03d", k%1000)))
	}
	return ps
}

// allGone are the same keys, without a value.
func allGone(ps []api.Pair) []api.Pair {
	var out []api.Pair
	for _, p := range ps {
		out = append(out, gone(p.Key))
	}
	return out
}

func sessions(clients ...int) []api.Session {
	var xs []api.Session
	for _, c := range clients {
		xs = append(xs, api.Session{Client: c, Seq: 10 + c})
	}
	return xs
}

func at(index, term int, ps ...api.Pair) api.State {
	return api.State{Index: index, Term: term, Pairs: ps}
}

func from(from, to, term int, ps ...api.Pair) Delta {
	return Delta{From: from, To: to, Term: term, Pairs: ps}
}

func copyState(s api.State) api.State {
	s.Pairs, s.Sessions = slices.Clone(s.Pairs), slices.Clone(s.Sessions)
	return s
}

func copyDelta(d Delta) Delta {
	d.Pairs, d.Sessions = slices.Clone(d.Pairs), slices.Clone(d.Sessions)
	return d
}

func equal(a, b Delta) bool {
	return a.From == b.From && a.To == b.To && a.Term == b.Term && slices.Equal(a.Pairs, b.Pairs) && slices.Equal(a.Sessions, b.Sessions)
}

func wantDelta(t *testing.T, got, want Delta) {
	t.Helper()
	if !equal(got, want) {
		t.Fatalf("%#v, not %#v", got, want)
	}
}

func wantState(t *testing.T, got, want api.State) {
	t.Helper()
	if got.Index != want.Index || got.Term != want.Term || !slices.Equal(got.Pairs, want.Pairs) || !slices.Equal(got.Sessions, want.Sessions) {
		t.Fatalf("%#v, not %#v", got, want)
	}
}

func wantRight(t *testing.T, d Delta, want bool) {
	t.Helper()
	if got := Right(d); got != want {
		t.Errorf("Right(%#v): %v", d, got)
	}
}

// wantBetween, wantDo and wantJoin fail unless there is this answer, and the slow function has it too.
func wantBetween(t *testing.T, a, b api.State, want Delta, err api.Errno) {
	t.Helper()
	got, e := holdBetween(t, a, b)
	if e != err {
		t.Fatalf("%#v, %#v: %v, not %v", a, b, e, err)
	}
	wantDelta(t, got, want)
}

func wantDo(t *testing.T, s api.State, d Delta, want api.State, err api.Errno) {
	t.Helper()
	got, e := holdDo(t, s, d)
	if e != err {
		t.Fatalf("%#v, %#v: %v, not %v", s, d, e, err)
	}
	wantState(t, got, want)
}

func wantJoin(t *testing.T, a, b, want Delta, err api.Errno) {
	t.Helper()
	got, e := holdJoin(t, a, b)
	if e != err {
		t.Fatalf("%#v, %#v: %v, not %v", a, b, e, err)
	}
	wantDelta(t, got, want)
}

func wantRead(t *testing.T, b []byte, want Delta) {
	t.Helper()
	if got, ok := Read(b); !equal(got, want) || !ok {
		t.Fatalf("Read(%x): %#v, %v, not %#v", b, got, ok, want)
	}
}

func wantNone(t *testing.T, what string, b []byte) {
	t.Helper()
	if got, ok := Read(b); !equal(got, Delta{}) || ok {
		t.Fatalf("%s: Read(%x): %#v, %v", what, b, got, ok)
	}
}

// wantBytes fails unless a valid delta has the bytes of the promise, and is read back from them.
func wantBytes(t *testing.T, d Delta) {
	t.Helper()
	b := Bytes(d)
	if !bytes.Equal(b, slowBytes(d)) {
		t.Fatalf("%#v: %x", d, b)
	}
	wantRead(t, b, d)
}

// P8.1

func TestLimitsAreThoseOfTheDocument(t *testing.T) {
	if api.MaxKey != 8 || api.MaxValue != 16 || api.MaxKeys != 64 || api.MaxEntry != million || api.MaxClient != 4 || api.ErrArgument != 14 {
		t.Error("the promises name other numbers")
	}
}

func TestRightOfSome(t *testing.T) {
	for _, d := range some {
		wantRight(t, d, true)
	}
	wantRight(t, Delta{Pairs: []api.Pair{}, Sessions: []api.Session{}}, true)
}

func TestRightOfFromAndTo(t *testing.T) {
	for _, from := range numbers {
		for _, to := range numbers {
			want := 0 <= from && from <= to && to <= million
			wantRight(t, Delta{From: from, To: to}, want)
			wantRight(t, Delta{From: from, To: to, Term: 1, Pairs: pairs(0, 3), Sessions: sessions(2)}, want)
		}
	}
	for from := -2; from < 6; from++ {
		wantRight(t, Delta{From: from, To: 3}, from >= 0 && from <= 3)
		wantRight(t, Delta{From: from, To: from}, from >= 0)
		wantRight(t, Delta{From: million + from, To: million}, from <= 0)
	}
}

func TestRightOfTerm(t *testing.T) {
	for _, term := range numbers {
		want := 0 <= term && term <= million
		wantRight(t, Delta{Term: term}, want)
		wantRight(t, Delta{From: 2, To: 5, Term: term, Pairs: pairs(0, 3), Sessions: sessions(2)}, want)
		wantRight(t, Delta{From: 5, To: 2, Term: term}, false)
	}
}

func TestRightOfMostPairs(t *testing.T) {
	for _, n := range []int{0, 1, 2, 63, 64, 65, 128, 511, 512, 513, 514, 1024} {
		wantRight(t, Delta{Pairs: pairs(0, n)}, n <= 512)
		wantRight(t, Delta{To: 9, Pairs: allGone(pairs(0, n)), Sessions: sessions(0, 1, 2, 3)}, n <= 512)
		wantRight(t, Delta{Pairs: slices.Concat(pairs(0, n/2), allGone(pairs(n/2, n)))}, n <= 512)
	}
}

func TestRightOfPairs(t *testing.T) {
	for _, c := range []struct {
		ps   []api.Pair
		want bool
	}{
		{[]api.Pair{gone("a")}, true},
		{[]api.Pair{put("a", ""), gone("b"), put("c", "1")}, true},
		{[]api.Pair{gone("12345678"), put("a", "1234567890123456")}, true},
		{[]api.Pair{gone("123456789")}, false},
		{[]api.Pair{put("a", "12345678901234567")}, false},
		{[]api.Pair{gone("")}, false},
		{[]api.Pair{put("", "1")}, false},
		{[]api.Pair{put("a", "1"), put("a", "2")}, false},
		{[]api.Pair{gone("a"), put("a", "2")}, false},
		{[]api.Pair{put("a", "1"), gone("a")}, false},
		{[]api.Pair{put("b", ""), put("a", "")}, false},
		{[]api.Pair{gone("a"), gone("c"), gone("b")}, false},
		{[]api.Pair{{Key: "a", Value: "v", Gone: true}}, false},
		{[]api.Pair{put("a", "1"), {Key: "b", Value: "\x00", Gone: true}}, false},
	} {
		wantRight(t, Delta{To: 1, Pairs: c.ps}, c.want)
		wantRight(t, Delta{To: 1, Pairs: c.ps, Sessions: sessions(1)}, c.want)
	}
}

func TestRightOfSessions(t *testing.T) {
	for _, c := range []struct {
		xs   []api.Session
		want bool
	}{
		{sessions(0, 1, 2, 3), true},
		{sessions(1, 3), true},
		{sessions(4), false},
		{sessions(-1), false},
		{sessions(1, 1), false},
		{sessions(2, 1), false},
		{[]api.Session{{Seq: million}}, true},
		{[]api.Session{{Seq: million + 1}}, false},
		{[]api.Session{{Seq: -1}}, false},
		{[]api.Session{{Reply: api.Reply{Err: api.ErrArgument, Value: "1234567890123456"}}}, true},
		{[]api.Session{{Reply: api.Reply{Err: api.ErrArgument + 1}}}, false},
		{[]api.Session{{Reply: api.Reply{Err: -1}}}, false},
		{[]api.Session{{Client: 1}, {Client: 2, Reply: api.Reply{Value: "12345678901234567"}}}, false},
	} {
		wantRight(t, Delta{To: 1, Sessions: c.xs}, c.want)
		wantRight(t, Delta{To: 1, Pairs: pairs(0, 2), Sessions: c.xs}, c.want)
	}
}

// wrong are deltas that are not valid, each by one thing.
func wrong() []Delta {
	turn := []func(d *Delta){
		func(d *Delta) { d.From = -1 },
		func(d *Delta) { d.From = 6 },
		func(d *Delta) { d.To = 1 },
		func(d *Delta) { d.To = -1 },
		func(d *Delta) { d.To = million + 1 },
		func(d *Delta) { d.From, d.To = million+1, million+1 },
		func(d *Delta) { d.From, d.To = -2, -1 },
		func(d *Delta) { d.Term = -1 },
		func(d *Delta) { d.Term = million + 1 },
		func(d *Delta) { d.Pairs[0].Key = "" },
		func(d *Delta) { d.Pairs[3].Key = "\xff23456789" },
		func(d *Delta) { d.Pairs[1].Key = "a" },
		func(d *Delta) { d.Pairs[1].Key = "b" },
		func(d *Delta) { d.Pairs[2].Key = "\xff\xff" },
		func(d *Delta) { d.Pairs[3].Value = "12345678901234567" },
		func(d *Delta) { d.Pairs[2].Value = "v" },
		func(d *Delta) { d.Pairs[1].Gone = true },
		func(d *Delta) { d.Pairs = pairs(0, 513) },
		func(d *Delta) { d.Pairs = allGone(pairs(0, 513)) },
		func(d *Delta) { d.Sessions[0].Client = -1 },
		func(d *Delta) { d.Sessions[0].Client = 3 },
		func(d *Delta) { d.Sessions[1].Client = 4 },
		func(d *Delta) { d.Sessions[0].Seq = -1 },
		func(d *Delta) { d.Sessions[1].Seq = million + 1 },
		func(d *Delta) { d.Sessions[0].Reply.Err = -1 },
		func(d *Delta) { d.Sessions[1].Reply.Err = api.ErrArgument + 1 },
		func(d *Delta) { d.Sessions[1].Reply.Value = "12345678901234567" },
	}
	var all []Delta
	for _, f := range turn {
		d := copyDelta(some[5])
		f(&d)
		all = append(all, d)
	}
	return all
}

func TestRightChangesNothing(t *testing.T) {
	for _, d := range append(wrong(), some...) {
		before := copyDelta(d)
		Right(d)
		wantDelta(t, d, before)
	}
}

func TestRightOfWrongDeltas(t *testing.T) {
	for _, d := range wrong() {
		wantRight(t, d, false)
	}
}

// Nothing is promised of the answers for what is not valid, but the calls end, and leave it as it was.
func TestWhatIsNotValid(t *testing.T) {
	states := []api.State{
		{},
		{Pairs: []api.Pair{put("c", ""), put("a", "1"), put("b", ""), put("a", "2")}},
		{Pairs: []api.Pair{put("", ""), put("", "1")}},
		{Pairs: pairs(0, 1200)},
		{Pairs: []api.Pair{{Key: "a", Value: "v", Gone: true}, gone("b")}},
		{Index: 2, Sessions: sessions(3, 1, -1, 1, 9)},
		{Index: -1, Term: -1},
		{Index: math.MaxInt, Term: math.MinInt},
		{Index: math.MinInt, Term: math.MaxInt},
	}
	deltas := append(wrong(), some...)
	for _, s := range states {
		before := copyState(s)
		for _, u := range states {
			Between(s, u)
		}
		for _, d := range deltas {
			beforeD := copyDelta(d)
			Do(s, d)
			d.From, d.Term = s.Index, s.Term
			Do(s, d)
			d.From, d.Term = beforeD.From, beforeD.Term
			wantDelta(t, d, beforeD)
		}
		wantState(t, s, before)
	}
	for _, a := range deltas {
		before := copyDelta(a)
		for _, b := range deltas {
			b.From, b.Term = a.To, a.Term
			Join(a, b)
		}
		wantDelta(t, a, before)
	}
}

// P8.2

func TestBetween(t *testing.T) {
	for _, c := range []struct {
		what string
		a, b []api.Pair
		want []api.Pair
	}{
		{"no keys", nil, nil, nil},
		{"nothing changed", []api.Pair{put("a", "1"), put("b", "")}, []api.Pair{put("a", "1"), put("b", "")}, nil},
		{"a key that came", nil, []api.Pair{put("a", "1")}, []api.Pair{put("a", "1")}},
		{"a key that went", []api.Pair{put("a", "1")}, nil, []api.Pair{gone("a")}},
		{"another value", []api.Pair{put("a", "1")}, []api.Pair{put("a", "2")}, []api.Pair{put("a", "2")}},
		{"a key that came without bytes", nil, []api.Pair{put("a", "")}, []api.Pair{put("a", "")}},
		{"a key that went without bytes", []api.Pair{put("a", "")}, nil, []api.Pair{gone("a")}},
		{"a value that became empty", []api.Pair{put("a", "1")}, []api.Pair{put("a", "")}, []api.Pair{put("a", "")}},
		{"a value that was empty", []api.Pair{put("a", "")}, []api.Pair{put("a", "1")}, []api.Pair{put("a", "1")}},
		{"a value that begins the other one", []api.Pair{put("a", "1")}, []api.Pair{put("a", "1\x00")}, []api.Pair{put("a", "1\x00")}},
		{"all of it",
			[]api.Pair{put("a", "1"), put("b", "2"), put("c", "3"), put("e", "")},
			[]api.Pair{put("b", "2"), put("c", "4"), put("d", "5"), put("e", ""), put("f", "6")},
			[]api.Pair{gone("a"), put("c", "4"), put("d", "5"), put("f", "6")}},
		{"one key for another", []api.Pair{put("b", "1")}, []api.Pair{put("a", "1")}, []api.Pair{put("a", "1"), gone("b")}},
		{"keys by their bytes",
			[]api.Pair{put("10", ""), put("Z", "1"), put("é", "1")},
			[]api.Pair{put("9", ""), put("a", "1"), put("é\x00", "1")},
			[]api.Pair{gone("10"), put("9", ""), gone("Z"), put("a", "1"), gone("é"), put("é\x00", "1")}},
	} {
		t.Run(c.what, func(t *testing.T) {
			wantBetween(t, at(1, 1, c.a...), at(3, 2, c.b...), from(1, 3, 2, c.want...), 0)
			wantBetween(t, at(0, 0, c.a...), at(0, 0, c.b...), from(0, 0, 0, c.want...), 0)
			wantBetween(t, at(million, million, c.a...), at(million, million, c.b...), from(million, million, million, c.want...), 0)
		})
	}
}

func TestBetweenOfIndexAndTerm(t *testing.T) {
	ordinary := []int{0, 1, 2, 3, 255, 256, million - 1, million}
	for _, i := range ordinary {
		for _, j := range ordinary {
			for _, k := range ordinary {
				for _, l := range ordinary {
					a, b := at(i, k, put("a", "1")), at(j, l, put("a", "2"))
					if j < i || l < k {
						wantBetween(t, a, b, Delta{}, api.ErrOrder)
					} else {
						wantBetween(t, a, b, from(i, j, l, put("a", "2")), 0)
					}
				}
			}
		}
	}
}

// The sessions are those of the later state, all of them, also where nothing about them changed.
func TestBetweenOfSessions(t *testing.T) {
	replies := []api.Session{{Client: 1, Seq: 2, Reply: api.Reply{Err: api.ErrMatch, Value: "v"}}, {Client: 3}}
	for _, a := range [][]api.Session{nil, sessions(0, 2), sessions(0, 1, 2, 3), replies} {
		for _, b := range [][]api.Session{nil, sessions(0), sessions(1, 2), sessions(0, 1, 2, 3), replies} {
			want := Delta{From: 1, To: 2, Sessions: b}
			wantBetween(t, api.State{Index: 1, Sessions: a}, api.State{Index: 2, Sessions: b}, want, 0)
		}
	}
}

func TestBetweenOfManyKeys(t *testing.T) {
	all := pairs(0, 128)
	low, high := all[:64], all[64:]
	wantBetween(t, at(1, 0, low...), at(2, 0, high...), from(1, 2, 0, slices.Concat(allGone(low), high)...), 0)
	wantBetween(t, at(1, 0, high...), at(2, 0, low...), from(1, 2, 0, slices.Concat(low, allGone(high))...), 0)
	wantBetween(t, at(1, 0), at(2, 0, low...), from(1, 2, 0, low...), 0)
	wantBetween(t, at(1, 0, low...), at(2, 0), from(1, 2, 0, allGone(low)...), 0)
	wantBetween(t, at(1, 0, low...), at(2, 0, low...), from(1, 2, 0), 0)
	for n := range low {
		other := slices.Clone(low)
		other[n].Value = "another"
		wantBetween(t, at(1, 0, low...), at(2, 0, other...), from(1, 2, 0, other[n]), 0)
		wantBetween(t, at(1, 0, low...), at(2, 0, slices.Delete(other, n, n+1)...), from(1, 2, 0, gone(low[n].Key)), 0)
	}
}

// stateOf is the state behind so many commands, some of which fail.
func stateOf(n int) api.State {
	var es []api.Entry
	for k := range n {
		op := []api.Op{api.Put, api.Put, api.Del, api.Swap}[k*7%4]
		c := api.Cmd{Op: op, Client: k % 4, Seq: k, Key: fmt.Sprint(k * k % 23), Value: fmt.Sprint(k)}
		es = append(es, api.Entry{Index: k + 1, Term: k / 9, Cmd: c})
	}
	return state.Fold(api.State{}, es)
}

// What is between two states leads from the one to the other, and what is between three is joined.
func TestDeltasOfALog(t *testing.T) {
	var all []api.State
	for n := 0; n < 60; n += 3 {
		all = append(all, stateOf(n))
	}
	for i, a := range all {
		for j, b := range all[i:] {
			d, e := holdBetween(t, a, b)
			if e != 0 {
				t.Fatalf("%v", e)
			}
			wantDo(t, a, d, b, 0)
			wantBytes(t, d)
			for _, c := range all[i+j:] {
				next, _ := holdBetween(t, b, c)
				both, e := holdJoin(t, d, next)
				if e != 0 {
					t.Fatalf("%v", e)
				}
				wantDo(t, a, both, c, 0)
			}
		}
	}
}

// P8.3

func TestDo(t *testing.T) {
	for _, c := range []struct {
		what string
		s, d []api.Pair
		want []api.Pair
	}{
		{"no keys", nil, nil, nil},
		{"no changes", []api.Pair{put("a", "1")}, nil, []api.Pair{put("a", "1")}},
		{"a new key", nil, []api.Pair{put("a", "1")}, []api.Pair{put("a", "1")}},
		{"a new key without bytes", nil, []api.Pair{put("a", "")}, []api.Pair{put("a", "")}},
		{"another value", []api.Pair{put("a", "1")}, []api.Pair{put("a", "2")}, []api.Pair{put("a", "2")}},
		{"a value that becomes empty", []api.Pair{put("a", "1")}, []api.Pair{put("a", "")}, []api.Pair{put("a", "")}},
		{"the same value", []api.Pair{put("a", "1")}, []api.Pair{put("a", "1")}, []api.Pair{put("a", "1")}},
		{"a key that goes", []api.Pair{put("a", "1")}, []api.Pair{gone("a")}, nil},
		{"a key that is not there goes", []api.Pair{put("b", "1")}, []api.Pair{gone("a"), gone("bb"), gone("c")}, []api.Pair{put("b", "1")}},
		{"a key goes where there is none", nil, []api.Pair{gone("a")}, nil},
		{"all of it",
			[]api.Pair{put("a", "1"), put("c", "3"), put("d", ""), put("f", "6")},
			[]api.Pair{gone("a"), put("b", "2"), put("c", "4"), gone("e"), put("g", "7")},
			[]api.Pair{put("b", "2"), put("c", "4"), put("d", ""), put("f", "6"), put("g", "7")}},
		{"keys by their bytes",
			[]api.Pair{put("9", "1"), put("Z", "1"), put("é", "1")},
			[]api.Pair{put("10", "2"), put("a", "2"), put("é\x00", "2")},
			[]api.Pair{put("10", "2"), put("9", "1"), put("Z", "1"), put("a", "2"), put("é", "1"), put("é\x00", "2")}},
	} {
		t.Run(c.what, func(t *testing.T) {
			wantDo(t, at(1, 1, c.s...), from(1, 3, 2, c.d...), at(3, 2, c.want...), 0)
			wantDo(t, at(0, 0, c.s...), from(0, 0, 0, c.d...), at(0, 0, c.want...), 0)
			wantDo(t, at(million, million, c.s...), from(million, million, million, c.d...), at(million, million, c.want...), 0)
		})
	}
}

func TestDoOfIndexAndTerm(t *testing.T) {
	ordinary := []int{0, 1, 2, 3, 255, 256, million - 1, million}
	for _, i := range ordinary {
		for _, j := range ordinary {
			for _, k := range ordinary {
				for _, l := range ordinary {
					s, d := at(i, k, put("a", "1")), from(j, million, l, put("a", "2"))
					if i != j || l < k {
						wantDo(t, s, d, api.State{}, api.ErrOrder)
					} else {
						wantDo(t, s, d, at(million, l, put("a", "2")), 0)
					}
				}
			}
		}
	}
}

func TestDoOfSessions(t *testing.T) {
	for _, a := range [][]api.Session{nil, sessions(0, 2), sessions(0, 1, 2, 3)} {
		for _, b := range [][]api.Session{nil, sessions(0), sessions(1, 2), sessions(0, 1, 2, 3)} {
			wantDo(t, api.State{Sessions: a}, Delta{To: 1, Sessions: b}, api.State{Index: 1, Sessions: b}, 0)
		}
	}
}

// 64 keys may be in the result, and not one more, whatever was before them.
func TestDoOfManyKeys(t *testing.T) {
	all := pairs(0, 200)
	for _, n := range []int{0, 1, 32, 62, 63, 64} {
		for more := range 70 {
			s, d := at(1, 0, all[:n]...), from(1, 2, 0, all[n:n+more]...)
			if n+more <= 64 {
				wantDo(t, s, d, at(2, 0, all[:n+more]...), 0)
			} else {
				wantDo(t, s, d, api.State{}, api.ErrFull)
			}
		}
	}
	full := at(1, 0, all[1:65]...)
	wantDo(t, full, from(1, 2, 0, all[1:65]...), at(2, 0, all[1:65]...), 0)
	wantDo(t, full, from(1, 2, 0, all[0]), api.State{}, api.ErrFull)
	wantDo(t, full, from(1, 2, 0, all[65]), api.State{}, api.ErrFull)
}

// A key that goes makes room for one that comes, wherever the two stand.
func TestDoOfAFullStateInWhichKeysGo(t *testing.T) {
	all := pairs(0, 700)
	full := at(1, 0, all[1:65]...)
	wantDo(t, full, from(1, 2, 0, all[0], gone(all[64].Key)), at(2, 0, all[:64]...), 0)
	wantDo(t, full, from(1, 2, 0, gone(all[1].Key), all[65]), at(2, 0, all[2:66]...), 0)
	wantDo(t, full, from(1, 2, 0, all[0], gone(all[64].Key), all[65]), api.State{}, api.ErrFull)
	wantDo(t, full, from(1, 2, 0, all[0], gone(all[65].Key)), api.State{}, api.ErrFull)
	others := slices.Concat(allGone(all[1:65]), all[65:129])
	wantDo(t, full, from(1, 2, 0, others...), at(2, 0, all[65:129]...), 0)
	others = slices.Concat(allGone(all[1:65]), all[65:130])
	wantDo(t, full, from(1, 2, 0, others...), api.State{}, api.ErrFull)
	wantDo(t, full, from(1, 2, 0, allGone(all[:512])...), at(2, 0), 0)
	wantDo(t, full, from(1, 2, 0, allGone(all[65:577])...), at(2, 0, all[1:65]...), 0)
	wantDo(t, full, from(1, 2, 0, all[65:577]...), api.State{}, api.ErrFull)
}

func TestDoNamesTheFirstError(t *testing.T) {
	many := pairs(0, 65)
	wantDo(t, at(1, 1), from(2, 3, 1, many...), api.State{}, api.ErrOrder)
	wantDo(t, at(1, 1), from(1, 3, 0, many...), api.State{}, api.ErrOrder)
	wantDo(t, at(1, 1), from(1, 3, 1, many...), api.State{}, api.ErrFull)
}

// P8.4

func TestJoin(t *testing.T) {
	for _, c := range []struct {
		what string
		a, b []api.Pair
		want []api.Pair
	}{
		{"no changes", nil, nil, nil},
		{"changes in the first one", []api.Pair{put("a", "1"), gone("b")}, nil, []api.Pair{put("a", "1"), gone("b")}},
		{"changes in the second one", nil, []api.Pair{put("a", "1"), gone("b")}, []api.Pair{put("a", "1"), gone("b")}},
		{"other keys", []api.Pair{put("b", "1"), gone("d")}, []api.Pair{gone("a"), put("c", "2")}, []api.Pair{gone("a"), put("b", "1"), put("c", "2"), gone("d")}},
		{"a key in both", []api.Pair{put("a", "1")}, []api.Pair{put("a", "2")}, []api.Pair{put("a", "2")}},
		{"a value that becomes empty", []api.Pair{put("a", "1")}, []api.Pair{put("a", "")}, []api.Pair{put("a", "")}},
		{"the same value in both", []api.Pair{put("a", "1")}, []api.Pair{put("a", "1")}, []api.Pair{put("a", "1")}},
		{"a key that went and came", []api.Pair{gone("a")}, []api.Pair{put("a", "2")}, []api.Pair{put("a", "2")}},
		{"a key that went and came without bytes", []api.Pair{gone("a")}, []api.Pair{put("a", "")}, []api.Pair{put("a", "")}},
		{"a key that came and went", []api.Pair{put("a", "1")}, []api.Pair{gone("a")}, []api.Pair{gone("a")}},
		{"a key that came without bytes and went", []api.Pair{put("a", "")}, []api.Pair{gone("a")}, []api.Pair{gone("a")}},
		{"a key that went twice", []api.Pair{gone("a")}, []api.Pair{gone("a")}, []api.Pair{gone("a")}},
		{"all of it",
			[]api.Pair{put("a", "1"), gone("c"), put("d", "4"), gone("e"), put("g", "7")},
			[]api.Pair{put("b", "2"), put("c", "3"), gone("d"), put("f", "6"), put("g", "8")},
			[]api.Pair{put("a", "1"), put("b", "2"), put("c", "3"), gone("d"), gone("e"), put("f", "6"), put("g", "8")}},
	} {
		t.Run(c.what, func(t *testing.T) {
			wantJoin(t, from(1, 3, 1, c.a...), from(3, 4, 2, c.b...), from(1, 4, 2, c.want...), 0)
			wantJoin(t, from(0, 0, 0, c.a...), from(0, 0, 0, c.b...), from(0, 0, 0, c.want...), 0)
			wantJoin(t, from(0, 5, 3, c.a...), from(5, million, million, c.b...), from(0, million, million, c.want...), 0)
		})
	}
}

func TestJoinOfIndexAndTerm(t *testing.T) {
	ordinary := []int{0, 1, 2, 3, 255, 256, million - 1, million}
	for _, i := range ordinary {
		for _, j := range ordinary {
			for _, k := range ordinary {
				for _, l := range ordinary {
					a, b := from(0, i, k, put("a", "1")), from(j, million, l, put("b", "2"))
					if i != j || l < k {
						wantJoin(t, a, b, Delta{}, api.ErrOrder)
					} else {
						wantJoin(t, a, b, from(0, million, l, put("a", "1"), put("b", "2")), 0)
					}
				}
			}
		}
	}
}

// Neither what begins where the other one begins, nor what ends there, follows it.
func TestJoinOfWhatDoesNotFollow(t *testing.T) {
	a := from(2, 5, 1)
	for _, b := range []Delta{from(0, 2, 1), from(2, 5, 1), from(4, 5, 1), from(4, 9, 1), from(6, 9, 1), from(0, 5, 1), from(5, 9, 0), from(5, 5, 0), from(6, 6, 0)} {
		wantJoin(t, a, b, Delta{}, api.ErrOrder)
	}
	wantJoin(t, a, from(5, 5, 1), from(2, 5, 1), 0)
	wantJoin(t, from(2, 2, 1), from(2, 5, 1), from(2, 5, 1), 0)
}

func TestJoinOfSessions(t *testing.T) {
	for _, a := range [][]api.Session{nil, sessions(0, 2), sessions(0, 1, 2, 3)} {
		for _, b := range [][]api.Session{nil, sessions(0), sessions(1, 2), sessions(0, 1, 2, 3)} {
			wantJoin(t, Delta{To: 1, Sessions: a}, Delta{From: 1, To: 2, Sessions: b}, Delta{To: 2, Sessions: b}, 0)
		}
	}
}

// 512 keys may be in both together, and not one more; one that is in both counts once, and one that is Gone counts too.
func TestJoinOfManyKeys(t *testing.T) {
	all := pairs(0, 1024)
	for _, n := range []int{0, 1, 255, 256, 511, 512} {
		for _, common := range []int{0, 1, 100, 255} {
			for total := 510; total <= 514; total++ {
				low := max(0, n-common)
				if common > n || total-low > 512 || total < n {
					continue
				}
				first, second := all[:n], allGone(all[low:total])
				if total <= 512 {
					wantJoin(t, from(0, 1, 0, first...), from(1, 2, 0, second...), from(0, 2, 0, slices.Concat(all[:low], second)...), 0)
					wantJoin(t, from(0, 1, 0, second...), from(1, 2, 0, first...), from(0, 2, 0, slices.Concat(first, second[n-low:])...), 0)
				} else {
					wantJoin(t, from(0, 1, 0, first...), from(1, 2, 0, second...), Delta{}, api.ErrFull)
					wantJoin(t, from(0, 1, 0, second...), from(1, 2, 0, first...), Delta{}, api.ErrFull)
				}
			}
		}
	}
	full := all[:512]
	wantJoin(t, from(0, 1, 0, full...), from(1, 2, 0, full...), from(0, 2, 0, full...), 0)
	wantJoin(t, from(0, 1, 0, full...), from(1, 2, 0, allGone(full)...), from(0, 2, 0, allGone(full)...), 0)
	wantJoin(t, from(0, 1, 0, full...), from(1, 2, 0, all[512:]...), Delta{}, api.ErrFull)
	wantJoin(t, from(0, 1, 0, full...), from(1, 2, 0, gone(all[512].Key)), Delta{}, api.ErrFull)
}

func TestJoinNamesTheFirstError(t *testing.T) {
	many := pairs(0, 600)
	wantJoin(t, from(0, 1, 1, many[:300]...), from(2, 3, 1, many[300:]...), Delta{}, api.ErrOrder)
	wantJoin(t, from(0, 1, 1, many[:300]...), from(1, 3, 0, many[300:]...), Delta{}, api.ErrOrder)
	wantJoin(t, from(0, 1, 1, many[:300]...), from(1, 3, 1, many[300:]...), Delta{}, api.ErrFull)
}

// Two deltas that are joined may lead where they can't be gone one by one: more keys stand between them than a state may have.
func TestJoinOverAStateThatIsFull(t *testing.T) {
	all := pairs(0, 65)
	a, b := from(0, 1, 0, all...), from(1, 2, 0, gone(all[0].Key))
	wantDo(t, api.State{}, a, api.State{}, api.ErrFull)
	both, e := Join(a, b)
	if e != 0 {
		t.Fatalf("%v", e)
	}
	wantDo(t, api.State{}, both, at(2, 0, all[1:]...), 0)
}

// Nothing that is answered shares memory with what was given.

func spoil(ps []api.Pair, xs []api.Session) {
	for n := range ps {
		ps[n] = api.Pair{Key: "spoilt", Gone: true}
	}
	for n := range xs {
		xs[n] = api.Session{Client: -9}
	}
}

func TestAnswersAreApartFromArguments(t *testing.T) {
	a := api.State{Index: 1, Pairs: []api.Pair{put("a", "1"), put("b", "2")}, Sessions: sessions(1)}
	b := api.State{Index: 2, Pairs: []api.Pair{put("b", "3"), put("c", "4")}, Sessions: sessions(1, 2)}
	x := Delta{From: 1, To: 2, Pairs: []api.Pair{gone("a"), put("c", "5")}, Sessions: sessions(0, 3)}
	y := Delta{From: 2, To: 3, Pairs: []api.Pair{put("d", "6")}, Sessions: sessions(2)}
	for range 2 {
		d, _ := holdBetween(t, a, b)
		spoil(d.Pairs, d.Sessions)
		s, _ := holdDo(t, a, x)
		spoil(s.Pairs, s.Sessions)
		d, _ = holdJoin(t, x, y)
		spoil(d.Pairs, d.Sessions)
	}
	wantState(t, a, api.State{Index: 1, Pairs: []api.Pair{put("a", "1"), put("b", "2")}, Sessions: sessions(1)})
	wantState(t, b, api.State{Index: 2, Pairs: []api.Pair{put("b", "3"), put("c", "4")}, Sessions: sessions(1, 2)})
	wantDelta(t, x, Delta{From: 1, To: 2, Pairs: []api.Pair{gone("a"), put("c", "5")}, Sessions: sessions(0, 3)})
	wantDelta(t, y, Delta{From: 2, To: 3, Pairs: []api.Pair{put("d", "6")}, Sessions: sessions(2)})
}

func TestArgumentsAreApartFromAnswers(t *testing.T) {
	a := api.State{Index: 1, Pairs: []api.Pair{put("a", "1"), put("b", "2")}, Sessions: sessions(1)}
	b := api.State{Index: 2, Pairs: []api.Pair{put("b", "3"), put("c", "4")}, Sessions: sessions(1, 2)}
	x := Delta{From: 1, To: 2, Sessions: sessions(0, 3)}
	y := Delta{From: 2, To: 3, Sessions: sessions(2)}
	d, _ := Between(a, b)
	s, _ := Do(a, x)
	z, _ := Join(d, y)
	wantD, wantS, wantZ := copyDelta(d), copyState(s), copyDelta(z)
	spoil(a.Pairs, a.Sessions)
	spoil(b.Pairs, b.Sessions)
	spoil(x.Pairs, x.Sessions)
	spoil(y.Pairs, y.Sessions)
	wantDelta(t, d, wantD)
	wantState(t, s, wantS)
	spoil(d.Pairs, d.Sessions)
	wantDelta(t, z, wantZ)
}

// A list that has room behind its end is not appended to.
func TestArgumentsWithRoomBehindThem(t *testing.T) {
	ps := pairs(0, 8)
	xs := sessions(0, 1, 2, 3)
	a := api.State{Index: 1, Pairs: ps[:2], Sessions: xs[:1]}
	b := api.State{Index: 2, Pairs: ps[:4], Sessions: xs[:2]}
	x := Delta{From: 1, To: 2, Pairs: ps[:3], Sessions: xs[:2]}
	y := Delta{From: 2, To: 3, Pairs: ps[4:6], Sessions: xs[:3]}
	d, _ := Between(a, b)
	s, _ := Do(a, x)
	z, _ := Join(x, y)
	_ = append(d.Sessions, api.Session{Client: -9})
	_ = append(s.Sessions, api.Session{Client: -9})
	_ = append(z.Sessions, api.Session{Client: -9})
	if !slices.Equal(ps, pairs(0, 8)) || !slices.Equal(xs, sessions(0, 1, 2, 3)) {
		t.Errorf("%#v, %#v", ps, xs)
	}
}

// A traversal that is left early yields nothing more.
func TestTraversalsThatAreLeft(t *testing.T) {
	ps := pairs(0, 9)
	for n := 1; n < 9; n++ {
		var some, none []api.Pair
		for key, p := range each(ps) {
			some = append(some, p)
			if key == ps[n-1].Key {
				break
			}
		}
		for key, p := range eachGone(ps) {
			none = append(none, p)
			if key == ps[n-1].Key {
				break
			}
		}
		if !slices.Equal(some, ps[:n]) || !slices.Equal(none, allGone(ps[:n])) {
			t.Errorf("%#v, %#v", some, none)
		}
	}
}

// P8.5

const zeros = "\x00\x00\x00\x00\x00\x00\x00"

func TestBytesWrittenOut(t *testing.T) {
	for _, c := range []struct {
		d    Delta
		want string
	}{
		{Delta{}, strings.Repeat("\x00", 40)},
		{Delta{From: 1, To: 258, Term: 2, Pairs: []api.Pair{put("k", "vv"), gone("l")},
			Sessions: []api.Session{{Client: 3, Seq: 5, Reply: api.Reply{Err: api.ErrMatch, Value: "was"}}}},
			zeros + "\x01" + "\x00\x00\x00\x00\x00\x00\x01\x02" + zeros + "\x02" +
				zeros + "\x02" + zeros + "\x01k" + zeros + "\x02vv" + "\x00" + zeros + "\x01l" + zeros + "\x00" + "\x01" +
				zeros + "\x01" + zeros + "\x03" + zeros + "\x05" + zeros + "\x0b" + zeros + "\x03was"},
		{Delta{From: -1, To: -256, Term: -2, Pairs: []api.Pair{{Value: "v", Gone: true}}, Sessions: []api.Session{{Client: -1, Seq: -2, Reply: api.Reply{Err: -3}}}},
			"\xff\xff\xff\xff\xff\xff\xff\xff" + "\xff\xff\xff\xff\xff\xff\xff\x00" + "\xff\xff\xff\xff\xff\xff\xff\xfe" +
				zeros + "\x01" + zeros + "\x00" + zeros + "\x01v" + "\x01" +
				zeros + "\x01" + "\xff\xff\xff\xff\xff\xff\xff\xff" + "\xff\xff\xff\xff\xff\xff\xff\xfe" + "\xff\xff\xff\xff\xff\xff\xff\xfd" + zeros + "\x00"},
	} {
		if b := Bytes(c.d); string(b) != c.want {
			t.Errorf("%#v: %x, not %x", c.d, b, c.want)
		}
	}
}

func TestBytesOfEachDelta(t *testing.T) {
	for _, d := range append(wrong(), some...) {
		before := copyDelta(d)
		if b := Bytes(d); !bytes.Equal(b, slowBytes(d)) {
			t.Errorf("%#v: %x", d, b)
		}
		wantDelta(t, d, before)
	}
}

func TestReadOfSome(t *testing.T) {
	for _, d := range some {
		wantBytes(t, d)
	}
}

func TestReadOfWrongDeltas(t *testing.T) {
	for n, d := range wrong() {
		wantNone(t, fmt.Sprint("the wrong one ", n), slowBytes(d))
	}
}

func TestReadOfFewBytes(t *testing.T) {
	wantNone(t, "nil", nil)
	for n := range 200 {
		if n == 40 {
			wantRead(t, make([]byte, n), Delta{})
		} else {
			wantNone(t, "zeros", make([]byte, n))
		}
		wantNone(t, "ones", bytes.Repeat([]byte{0xff}, n))
	}
}

func TestReadOfBytesCutOff(t *testing.T) {
	for _, d := range some[:len(some)-1] {
		b := slowBytes(d)
		for n := range b {
			wantNone(t, "cut off", b[:n])
		}
	}
	b := slowBytes(some[len(some)-1])
	for n := 0; n < len(b); n += 61 {
		wantNone(t, "cut off", b[:n])
	}
}

func TestReadOfMoreBytes(t *testing.T) {
	for _, d := range some {
		b := slowBytes(d)
		for _, more := range [][]byte{{0}, {1}, {0xe5}, make([]byte, 8), make([]byte, 40), b} {
			wantNone(t, "more behind them", slices.Concat(b, more))
		}
	}
}

// One byte that is another gives another delta, or none: never this one, and never one whose bytes are others.
func TestReadOfOneOtherByte(t *testing.T) {
	for _, d := range some[:len(some)-1] {
		b := slowBytes(d)
		for at := range b {
			for c := range 256 {
				other := bytes.Clone(b)
				other[at] = byte(c)
				if bytes.Equal(other, b) {
					continue
				}
				got, ok := Read(other)
				if ok && (equal(got, d) || !Right(got) || !bytes.Equal(slowBytes(got), other)) {
					t.Fatalf("%d is %d: %#v", at, c, got)
				}
				if !ok {
					wantNone(t, "another byte", other)
				}
			}
		}
	}
}

func TestReadOfOtherNumbers(t *testing.T) {
	ordinary := some[5]
	for _, n := range numbers {
		for _, turn := range []func(d *Delta){
			func(d *Delta) { d.From = n },
			func(d *Delta) { d.To = n },
			func(d *Delta) { d.Term = n },
		} {
			d := copyDelta(ordinary)
			turn(&d)
			if d.From >= 0 && d.From <= d.To && d.To <= million && d.Term >= 0 && d.Term <= million {
				wantRead(t, slowBytes(d), d)
			} else {
				wantNone(t, fmt.Sprint("the number ", n), slowBytes(d))
			}
		}
	}
}

func TestReadOfWrongNumbersOfElements(t *testing.T) {
	head := make([]byte, 24)
	ps, xs := []api.Pair{put("a", ""), gone("b")}, sessions(1, 2)
	rows := func(nPairs int, ps []api.Pair, nSessions int, xs []api.Session) []byte {
		return rowsOf(bytes.Clone(head), nPairs, ps, nSessions, xs)
	}
	wantRead(t, rows(2, ps, 2, xs), Delta{Pairs: ps, Sessions: xs})
	for _, n := range []int{-1, -2, -512, math.MinInt, 1, 3, 64, 512, 513, 1 << 32, math.MaxInt} {
		wantNone(t, fmt.Sprint(n, " pairs"), rows(n, ps, 2, xs))
		wantNone(t, fmt.Sprint(n, " sessions"), rows(2, ps, n, xs))
		wantNone(t, fmt.Sprint(n, " pairs of none"), rows(n, nil, 0, nil))
		wantNone(t, fmt.Sprint(n, " sessions of none"), rows(0, nil, n, nil))
		wantNone(t, fmt.Sprint(n, " pairs of none, and sessions"), rows(n, nil, 2, xs))
		wantNone(t, fmt.Sprint(n, " of both"), rows(n, nil, n, nil))
	}
}

func TestReadOfAPairsByte(t *testing.T) {
	for _, p := range []api.Pair{put("k", ""), put("k", "v"), gone("k")} {
		b := slowBytes(Delta{Pairs: []api.Pair{p}})
		at := len(b) - 8 - 1
		for c := range 256 {
			b[at] = byte(c)
			if c == 0 || c == 1 && p.Value == "" {
				wantRead(t, b, Delta{Pairs: []api.Pair{{Key: p.Key, Value: p.Value, Gone: c == 1}}})
			} else {
				wantNone(t, fmt.Sprint("the byte ", c), b)
			}
		}
	}
}

func TestReadOfMostPairs(t *testing.T) {
	for _, n := range []int{511, 512, 513, 1000} {
		for _, ps := range [][]api.Pair{pairs(0, n), allGone(pairs(0, n))} {
			d := Delta{To: 1, Pairs: ps}
			if n <= 512 {
				wantBytes(t, d)
			} else {
				wantNone(t, "too many pairs", slowBytes(d))
			}
		}
	}
}

func TestReadKeepsNoBytes(t *testing.T) {
	for _, d := range some {
		b := slowBytes(d)
		got, ok := Read(b)
		if !ok || !bytes.Equal(b, slowBytes(d)) {
			t.Errorf("its argument is changed: %x", b)
		}
		clear(b)
		wantDelta(t, got, d)
	}
}

func TestBytesAreNew(t *testing.T) {
	for _, d := range some {
		clear(Bytes(d))
		if b := Bytes(d); !bytes.Equal(b, slowBytes(d)) {
			t.Errorf("%x", b)
		}
	}
}

func TestSame(t *testing.T) {
	all := append(wrong(), some...)
	for n, a := range all {
		for m, b := range all {
			if Same(a, copyDelta(b)) != (n == m) {
				t.Errorf("%#v and %#v: %v", a, b, n != m)
			}
		}
	}
	none := Delta{Pairs: []api.Pair{}, Sessions: []api.Session{}}
	if !Same(Delta{}, none) || !Same(none, Delta{}) {
		t.Error("lists without elements are the same")
	}
}

func TestSameOfOneDifference(t *testing.T) {
	d := some[5]
	for n, turn := range []func(d *Delta){
		func(d *Delta) { d.From++ },
		func(d *Delta) { d.To++ },
		func(d *Delta) { d.Term++ },
		func(d *Delta) { d.Pairs[1].Key = "ab" },
		func(d *Delta) { d.Pairs[1].Value = "" },
		func(d *Delta) { d.Pairs[2].Gone = false },
		func(d *Delta) { d.Pairs = d.Pairs[:3] },
		func(d *Delta) { d.Pairs[0], d.Pairs[1] = d.Pairs[1], d.Pairs[0] },
		func(d *Delta) { d.Sessions[1].Client = 2 },
		func(d *Delta) { d.Sessions[1].Seq = 1 },
		func(d *Delta) { d.Sessions[1].Reply.Err = 0 },
		func(d *Delta) { d.Sessions[1].Reply.Value = "y" },
		func(d *Delta) { d.Sessions = d.Sessions[1:] },
	} {
		u := copyDelta(d)
		if !Same(d, u) {
			t.Error("a copy is the same")
		}
		turn(&u)
		if Same(d, u) || Same(u, d) {
			t.Errorf("the difference %d", n)
		}
	}
}
