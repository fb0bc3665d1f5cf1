package state

import (
	"bytes"
	"fmt"
	"math"
	"slices"
	"strings"
	"testing"

	"tephra/api"
	"tephra/cmds"
	"tephra/pack"
)

// million is the greatest Seq, Index and Term, as the document writes it.
const million = 1 << 20

// number is a value of a field, and whether the field may have it.
type number struct {
	n  int
	ok bool
}

// The values of each number: ordinary ones, those at its edges, and wrong ones.
var (
	clients = []number{{0, true}, {1, true}, {2, true}, {3, true}, {4, false}, {5, false}, {-1, false}, {256, false}, {math.MaxInt, false}, {math.MinInt, false}}
	seqs    = []number{{0, true}, {1, true}, {7, true}, {million - 1, true}, {million, true}, {million + 1, false}, {-1, false},
		{1 << 32, false}, {1<<32 + 1, false}, {math.MaxInt, false}, {math.MinInt, false}}
	errnos = []number{{0, true}, {1, true}, {int(api.ErrFull), true}, {int(api.ErrLeader), true}, {14, true}, {15, false}, {16, false}, {-1, false},
		{256, false}, {1 << 32, false}, {math.MaxInt, false}, {math.MinInt, false}}
	indexes = seqs
	terms   = seqs
)

// some are the states that may be, from which the tests of bytes go out.
var some = []api.State{
	{},
	{Index: 1},
	{Index: 3, Term: 2, Pairs: []api.Pair{{Key: "k", Value: "v"}}},
	{Index: 258, Term: 257, Sessions: []api.Session{{Client: 2, Seq: 65537, Reply: api.Reply{Err: api.ErrMatch, Value: "was"}}}},
	{Index: 5, Term: 1,
		Pairs:    []api.Pair{{Key: "a"}, {Key: "a\x00", Value: "\x00"}, {Key: "b", Value: "é"}, {Key: "\xff\xfe", Value: "\xff"}},
		Sessions: []api.Session{{Client: 1, Seq: 3, Reply: api.Reply{Value: "x"}}, {Client: 3, Seq: 0, Reply: api.Reply{Err: api.ErrFull}}}},
	{Index: million, Term: million, Pairs: pairs(64),
		Sessions: []api.Session{{}, {Client: 1}, {Client: 2, Seq: million}, {Client: 3, Seq: million, Reply: api.Reply{Err: api.ErrArgument, Value: "1234567890123456"}}}},
}

// pairs are so many, of rising keys.
func pairs(n int) []api.Pair {
	var ps []api.Pair
	for k := range n {
		ps = append(ps, api.Pair{Key: fmt.Sprintf("key %03d", k), Value: fmt.Sprintf("the value of %03d", k)})
	}
	return ps
}

func keyed(keys ...string) []api.Pair {
	var ps []api.Pair
	for _, k := range keys {
		ps = append(ps, api.Pair{Key: k})
	}
	return ps
}

func sessions(clients ...int) []api.Session {
	var xs []api.Session
	for _, c := range clients {
		xs = append(xs, api.Session{Client: c})
	}
	return xs
}

func deepCopy(s api.State) api.State {
	s.Pairs, s.Sessions = slices.Clone(s.Pairs), slices.Clone(s.Sessions)
	return s
}

func equal(a, b api.State) bool {
	return a.Index == b.Index && a.Term == b.Term && slices.Equal(a.Pairs, b.Pairs) && slices.Equal(a.Sessions, b.Sessions)
}

func wantState(t *testing.T, got, want api.State) {
	t.Helper()
	if !equal(got, want) {
		t.Fatalf("%#v, not %#v", got, want)
	}
}

func wantRightRows(t *testing.T, ps []api.Pair, xs []api.Session, most int, want bool) {
	t.Helper()
	if got := RightRows(ps, xs, most); got != want {
		t.Errorf("RightRows(%#v, %#v, %d): %v", ps, xs, most, got)
	}
}

func wantRight(t *testing.T, s api.State, want bool) {
	t.Helper()
	if got := Right(s); got != want {
		t.Errorf("Right(%#v): %v", s, got)
	}
}

// wantBoth fails unless a list is valid, or is not, as rows and in a state.
func wantBoth(t *testing.T, ps []api.Pair, xs []api.Session, want bool) {
	t.Helper()
	wantRightRows(t, ps, xs, 64, want)
	wantRight(t, api.State{Index: 1, Pairs: ps, Sessions: xs}, want)
}

func wantGet(t *testing.T, s api.State, key string, want api.Reply) {
	t.Helper()
	if got := Get(s, key); got != want {
		t.Errorf("Get %q: %#v, not %#v", key, got, want)
	}
}

// wantApply fails unless an entry gives this state and this reply, and leaves its argument as it was.
func wantApply(t *testing.T, s api.State, e api.Entry, want api.State, reply api.Reply) {
	t.Helper()
	before := deepCopy(s)
	got, out := Apply(s, e)
	if out != reply {
		t.Fatalf("%#v: %#v, not %#v", e, out, reply)
	}
	wantState(t, got, want)
	wantState(t, s, before)
}

// wantDo applies a command as the next entry, and fails unless it has this reply.
func wantDo(t *testing.T, s api.State, c api.Cmd, reply api.Reply) api.State {
	t.Helper()
	u, out := Apply(s, api.Entry{Index: s.Index + 1, Term: s.Term, Cmd: c})
	if out != reply || u.Index != s.Index+1 || u.Term != s.Term || !Right(u) {
		t.Fatalf("%#v: %#v, not %#v; %#v", c, out, reply, u)
	}
	return u
}

func wantPairs(t *testing.T, s api.State, want ...api.Pair) {
	t.Helper()
	if !slices.Equal(s.Pairs, want) {
		t.Errorf("%#v, not %#v", s.Pairs, want)
	}
}

func wantSessions(t *testing.T, s api.State, want ...api.Session) {
	t.Helper()
	if !slices.Equal(s.Sessions, want) {
		t.Errorf("%#v, not %#v", s.Sessions, want)
	}
}

func wantRead(t *testing.T, b []byte, want api.State) {
	t.Helper()
	if got, ok := Read(b); !equal(got, want) || !ok {
		t.Fatalf("Read(%x): %#v, %v, not %#v", b, got, ok, want)
	}
}

func wantNone(t *testing.T, what string, b []byte) {
	t.Helper()
	if got, ok := Read(b); got.Index != 0 || got.Term != 0 || len(got.Pairs) != 0 || len(got.Sessions) != 0 || ok {
		t.Fatalf("%s: Read(%x): %#v, %v", what, b, got, ok)
	}
}

func put(client, seq int, key, value string) api.Cmd {
	return api.Cmd{Op: api.Put, Client: client, Seq: seq, Key: key, Value: value}
}

func del(client, seq int, key string) api.Cmd {
	return api.Cmd{Op: api.Del, Client: client, Seq: seq, Key: key}
}

func swap(client, seq int, key, value, old string) api.Cmd {
	return api.Cmd{Op: api.Swap, Client: client, Seq: seq, Key: key, Value: value, Old: old}
}

func told(value string) api.Reply {
	return api.Reply{Value: value}
}

func failed(e api.Errno) api.Reply {
	return api.Reply{Err: e}
}

// P7.1

func TestLimitsAreThoseOfTheDocument(t *testing.T) {
	if api.MaxKey != 8 || api.MaxValue != 16 || api.MaxKeys != 64 || api.MaxEntry != million || api.MaxClient != 4 || api.ErrArgument != 14 {
		t.Error("the promises name other numbers")
	}
}

func TestRightRowsOfNone(t *testing.T) {
	for _, most := range []int{0, 1, 64, 512, math.MaxInt} {
		wantRightRows(t, nil, nil, most, true)
		wantRightRows(t, []api.Pair{}, []api.Session{}, most, true)
		wantRightRows(t, nil, sessions(0, 1, 2, 3), most, true)
	}
	for _, most := range []int{-1, -64, math.MinInt} {
		wantRightRows(t, nil, nil, most, false)
		wantRightRows(t, keyed("a"), nil, most, false)
	}
	wantRight(t, api.State{}, true)
	wantRight(t, api.State{Pairs: []api.Pair{}, Sessions: []api.Session{}}, true)
}

func TestRightRowsOfMostPairs(t *testing.T) {
	for _, most := range []int{0, 1, 2, 3, 63, 64, 65, 512} {
		for _, n := range []int{0, 1, 2, 3, 4, 63, 64, 65, 511, 512, 513} {
			wantRightRows(t, pairs(n), sessions(1, 3), most, n <= most)
		}
	}
	for _, n := range []int{0, 1, 63, 64, 65, 66, 512} {
		wantRight(t, api.State{Pairs: pairs(n)}, n <= 64)
	}
	wantRightRows(t, pairs(600), nil, math.MaxInt, true)
}

func TestRightRowsOfKeysThatRise(t *testing.T) {
	for _, c := range []struct {
		keys []string
		want bool
	}{
		{[]string{"a"}, true},
		{[]string{"a", "b"}, true},
		{[]string{"a", "b", "d", "z"}, true},
		{[]string{"a", "a\x00", "aa", "ab", "b"}, true},
		{[]string{"\x00", "10", "9", "B", "a", "z", "ä", "\xff"}, true},
		{[]string{"a", "a"}, false},
		{[]string{"a", "b", "b"}, false},
		{[]string{"a", "a", "b"}, false},
		{[]string{"b", "a"}, false},
		{[]string{"a", "c", "b"}, false},
		{[]string{"b", "a", "c"}, false},
		{[]string{"a", "c", "b", "d"}, false},
		{[]string{"a", "b", "a"}, false},
		{[]string{"aa", "a"}, false},
		{[]string{"a", "B"}, false},
		{[]string{"9", "10"}, false},
		{[]string{"ä", "b"}, false},
		{[]string{"12345678", "12345678"}, false},
	} {
		wantBoth(t, keyed(c.keys...), nil, c.want)
	}
}

// A key counts whether its pair is Gone or not, and whatever its value is.
func TestRightRowsOfEqualKeysWithOtherValues(t *testing.T) {
	wantRightRows(t, []api.Pair{{Key: "a", Value: "1"}, {Key: "a", Value: "2"}}, nil, 64, false)
	wantRightRows(t, []api.Pair{{Key: "a", Gone: true}, {Key: "a", Value: "2"}}, nil, 64, false)
	wantRightRows(t, []api.Pair{{Key: "a", Value: "2"}, {Key: "a", Gone: true}}, nil, 64, false)
	wantRightRows(t, []api.Pair{{Key: "b", Gone: true}, {Key: "a", Gone: true}}, nil, 64, false)
}

func TestRightRowsOfKeysOfEachLength(t *testing.T) {
	for n := range 20 {
		long := strings.Repeat("x", n)
		wantBoth(t, keyed(long), nil, n >= 1 && n <= 8)
		wantBoth(t, keyed("a", "b", long), nil, n >= 1 && n <= 8)
		wantRightRows(t, []api.Pair{{Key: long, Gone: true}}, nil, 64, n >= 1 && n <= 8)
	}
	wantBoth(t, keyed("", "a"), nil, false)
	wantBoth(t, keyed("\x00"), nil, true)
	wantBoth(t, keyed("éèçà"), nil, true)
	wantBoth(t, keyed("éèçàx"), nil, false)
	wantBoth(t, keyed("a", "bbbbbbbbb", "c"), nil, false)
}

func TestRightRowsOfValuesOfEachLength(t *testing.T) {
	for n := range 40 {
		long := strings.Repeat("v", n)
		wantBoth(t, []api.Pair{{Key: "k", Value: long}}, nil, n <= 16)
		wantBoth(t, []api.Pair{{Key: "a"}, {Key: "b", Value: long}, {Key: "c"}}, nil, n <= 16)
		wantRightRows(t, []api.Pair{{Key: "k", Value: long, Gone: true}}, nil, 64, n == 0)
		wantRightRows(t, []api.Pair{{Key: "a", Value: "v"}, {Key: "k", Value: long, Gone: true}}, nil, 64, n == 0)
		wantBoth(t, nil, []api.Session{{Reply: told(long)}}, n <= 16)
		wantBoth(t, nil, []api.Session{{}, {Client: 2, Reply: api.Reply{Err: api.ErrMatch, Value: long}}, {Client: 3}}, n <= 16)
	}
	wantBoth(t, []api.Pair{{Key: "k", Value: "éèçàéèçà"}}, nil, true)
	wantBoth(t, []api.Pair{{Key: "k", Value: "éèçàéèçàx"}}, nil, false)
	wantRightRows(t, []api.Pair{{Key: "k", Value: "\x00", Gone: true}}, nil, 64, false)
}

// eachRow is every row of numbers from -1 to 4 that has up to three of them.
func eachRow(tell func(row []int)) {
	tell(nil)
	for a := -1; a <= 4; a++ {
		tell([]int{a})
		for b := -1; b <= 4; b++ {
			tell([]int{a, b})
			for c := -1; c <= 4; c++ {
				tell([]int{a, b, c})
			}
		}
	}
}

func TestRightRowsOfClients(t *testing.T) {
	eachRow(func(row []int) {
		want := true
		for n, c := range row {
			if c < 0 || c > 3 || slices.Max(append([]int{-1}, row[:n]...)) >= c {
				want = false
			}
		}
		wantBoth(t, nil, sessions(row...), want)
		wantBoth(t, pairs(2), sessions(row...), want)
	})
	for _, c := range clients {
		wantBoth(t, nil, sessions(c.n), c.ok)
	}
	wantBoth(t, nil, sessions(0, 1, 2, 3), true)
	wantBoth(t, nil, sessions(0, 1, 2, 3, 3), false)
	wantBoth(t, nil, sessions(0, 1, 2, 3, 4), false)
	wantBoth(t, nil, sessions(3, 2, 1, 0), false)
}

func TestRightRowsOfEachSession(t *testing.T) {
	for at := range 4 {
		for _, seq := range seqs {
			for _, e := range errnos {
				xs := sessions(0, 1, 2, 3)
				xs[at].Seq = seq.n
				xs[at].Reply.Err = api.Errno(e.n)
				wantBoth(t, nil, xs, seq.ok && e.ok)
			}
		}
	}
	falling := []api.Session{{Client: 0, Seq: 9}, {Client: 1, Seq: 9}, {Client: 2, Seq: 1}}
	wantBoth(t, nil, falling, true)
}

func TestRightRowsOfOneListThatIsWrong(t *testing.T) {
	wantBoth(t, keyed("a"), sessions(4), false)
	wantBoth(t, keyed(""), sessions(1), false)
	wantBoth(t, keyed("b", "a"), nil, false)
	wantBoth(t, nil, sessions(2, 1), false)
}

func TestRightOfIndexAndTerm(t *testing.T) {
	for _, index := range indexes {
		for _, term := range terms {
			wantRight(t, api.State{Index: index.n, Term: term.n}, index.ok && term.ok)
			wantRight(t, api.State{Index: index.n, Term: term.n, Pairs: pairs(3), Sessions: sessions(2)}, index.ok && term.ok)
			wantRight(t, api.State{Index: index.n, Term: term.n, Pairs: keyed("")}, false)
		}
	}
	for _, s := range some {
		wantRight(t, s, true)
	}
}

func TestRightOfAPairThatIsGone(t *testing.T) {
	for at := range 3 {
		ps := keyed("a", "b", "c")
		ps[at].Gone = true
		wantRightRows(t, ps, nil, 3, true)
		wantRight(t, api.State{Pairs: ps}, false)
		ps[at].Value = "v"
		wantRightRows(t, ps, nil, 3, false)
		wantRight(t, api.State{Pairs: ps}, false)
	}
}

func TestRightChangesNothing(t *testing.T) {
	for _, s := range []api.State{
		some[4],
		{Pairs: []api.Pair{{Key: "b"}, {Key: "a", Value: "v", Gone: true}}, Sessions: sessions(3, -1, 2)},
	} {
		before := deepCopy(s)
		Right(s)
		RightRows(s.Pairs, s.Sessions, 512)
		wantState(t, s, before)
	}
}

// P7.2

func TestGet(t *testing.T) {
	for _, s := range some {
		before := deepCopy(s)
		for _, p := range s.Pairs {
			wantGet(t, s, p.Key, told(p.Value))
			wantGet(t, s, p.Key+"\x01", failed(api.ErrUnknown))
		}
		for _, key := range []string{"", "\x00", "A", "~~", "\xff\xff", "123456789", strings.Repeat("k", 300)} {
			wantGet(t, s, key, failed(api.ErrUnknown))
		}
		wantState(t, s, before)
	}
	wantGet(t, api.State{Pairs: keyed("a")}, "a", api.Reply{})
}

// Nothing is promised of the answers for a state that is not valid, but the calls end, and leave it as it was.
func TestStatesThatAreNotValid(t *testing.T) {
	for _, s := range []api.State{
		{Pairs: keyed("c", "a", "b", "a")},
		{Pairs: keyed("", "")},
		{Pairs: pairs(200)},
		{Pairs: []api.Pair{{Key: "a", Value: "v", Gone: true}}},
		{Sessions: sessions(3, 1, -1, 1, 9)},
		{Index: -1, Term: -1},
		{Index: math.MaxInt, Term: math.MinInt},
		{Index: math.MinInt, Term: math.MaxInt},
	} {
		before := deepCopy(s)
		for _, c := range []api.Cmd{{}, put(1, 5, "a", "x"), put(1, 5, "zz", "x"), del(1, 5, "a"), swap(1, 5, "a", "x", "v")} {
			for _, e := range []api.Entry{{Index: s.Index + 1, Term: s.Term, Cmd: c}, {Index: 1, Term: million, Cmd: c}, {Index: 0, Cmd: c}} {
				Apply(s, e)
				Fold(s, []api.Entry{e, {Index: s.Index + 2, Term: s.Term, Cmd: c}})
				wantState(t, s, before)
			}
			Get(s, c.Key)
		}
		Bytes(s)
		wantState(t, s, before)
	}
}

func TestApplyOfAnEntryThatIsNotValid(t *testing.T) {
	for _, s := range some {
		next := s.Index + 1
		for _, e := range []api.Entry{
			{},
			{Index: 0, Term: s.Term},
			{Index: -1, Term: s.Term},
			{Index: million + 1, Term: s.Term},
			{Index: math.MinInt, Term: s.Term},
			{Index: next, Term: -1},
			{Index: next, Term: million + 1},
			{Index: next, Term: s.Term, Cmd: api.Cmd{Op: 4, Key: "k"}},
			{Index: next, Term: s.Term, Cmd: api.Cmd{Op: -1, Key: "k"}},
			{Index: next, Term: s.Term, Cmd: api.Cmd{Op: 257, Key: "k"}},
			{Index: next, Term: s.Term, Cmd: api.Cmd{Seq: 1}},
			{Index: next, Term: s.Term, Cmd: put(4, 1, "k", "v")},
			{Index: next, Term: s.Term, Cmd: put(-1, 1, "k", "v")},
			{Index: next, Term: s.Term, Cmd: put(1, -1, "k", "v")},
			{Index: next, Term: s.Term, Cmd: put(1, million+1, "k", "v")},
			{Index: next, Term: s.Term, Cmd: put(1, 1, "", "v")},
			{Index: next, Term: s.Term, Cmd: put(1, 1, "123456789", "v")},
			{Index: next, Term: s.Term, Cmd: put(1, 1, "k", "12345678901234567")},
			{Index: next, Term: s.Term, Cmd: swap(1, 1, "k", "v", "12345678901234567")},
		} {
			wantApply(t, s, e, s, failed(api.ErrArgument))
		}
	}
}

// An entry that is not valid is told as such, also if it is not the next one.
func TestApplyTellsTheArgumentFirst(t *testing.T) {
	s := api.State{Index: 5, Term: 3, Pairs: keyed("a")}
	for _, e := range []api.Entry{
		{Index: 9, Term: 3, Cmd: api.Cmd{Op: 9}},
		{Index: 6, Term: 2, Cmd: put(1, 1, "", "v")},
		{Index: 5, Term: 0, Cmd: put(9, 1, "k", "v")},
		{Index: 6, Term: -1},
		{Index: 0, Term: 3},
		{Index: -6, Term: 0},
	} {
		wantApply(t, s, e, s, failed(api.ErrArgument))
	}
}

func TestApplyOutOfOrder(t *testing.T) {
	s := api.State{Index: 5, Term: 3, Pairs: keyed("a"), Sessions: []api.Session{{Client: 1, Seq: 4}}}
	for _, c := range []api.Cmd{{}, put(1, 5, "k", "v"), put(1, 4, "k", "v"), put(1, 3, "k", "v"), del(2, 0, "a"), swap(3, 1, "a", "b", "")} {
		for _, index := range []int{1, 2, 4, 5, 7, 8, million} {
			for _, term := range []int{0, 2, 3, 4, million} {
				wantApply(t, s, api.Entry{Index: index, Term: term, Cmd: c}, s, failed(api.ErrOrder))
			}
		}
		for _, term := range []int{0, 1, 2} {
			wantApply(t, s, api.Entry{Index: 6, Term: term, Cmd: c}, s, failed(api.ErrOrder))
		}
	}
	wantApply(t, api.State{}, api.Entry{Index: 2}, api.State{}, failed(api.ErrOrder))
}

func TestApplyOfANop(t *testing.T) {
	for _, s := range some[:len(some)-1] {
		for _, term := range []int{s.Term, s.Term + 1, million} {
			want := deepCopy(s)
			want.Index, want.Term = s.Index+1, term
			wantApply(t, s, api.Entry{Index: s.Index + 1, Term: term}, want, api.Reply{})
		}
	}
}

func TestApplyAtTheLastIndex(t *testing.T) {
	s := api.State{Index: million - 1, Term: million}
	u, out := Apply(s, api.Entry{Index: million, Term: million, Cmd: put(0, 1, "k", "v")})
	if out != (api.Reply{}) || u.Index != million {
		t.Fatal(u, out)
	}
	wantApply(t, u, api.Entry{Index: million + 1, Term: million}, u, failed(api.ErrArgument))
	wantApply(t, u, api.Entry{Index: million, Term: million}, u, failed(api.ErrOrder))
}

func TestApplyTakesTheTerm(t *testing.T) {
	s := api.State{Index: 5, Term: 3, Sessions: []api.Session{{Client: 1, Seq: 4, Reply: told("x")}}}
	for _, c := range []api.Cmd{{}, put(1, 5, "k", "v"), put(1, 4, "k", "v"), put(1, 3, "k", "v"), del(1, 5, "k")} {
		for _, term := range []int{3, 4, 9, million} {
			if u, _ := Apply(s, api.Entry{Index: 6, Term: term, Cmd: c}); u.Index != 6 || u.Term != term {
				t.Errorf("%#v in term %d: %d, %d", c, term, u.Index, u.Term)
			}
		}
	}
}

// The example of the chapter.
func TestPutRepeated(t *testing.T) {
	s := wantDo(t, api.State{}, put(1, 1, "k", "old"), told(""))
	s = wantDo(t, s, put(1, 2, "k", "v"), told("old"))
	again := wantDo(t, s, put(1, 2, "k", "v"), told("old"))
	s.Index++
	wantState(t, again, s)
}

func TestTheSameSeqIsNotDoneAgain(t *testing.T) {
	first := api.Session{Client: 2, Seq: 7, Reply: api.Reply{Err: api.ErrMatch, Value: "seen"}}
	s := api.State{Index: 5, Term: 3, Pairs: []api.Pair{{Key: "k", Value: "v"}}, Sessions: []api.Session{{Client: 1, Seq: 9}, first}}
	want := deepCopy(s)
	want.Index = 6
	for _, c := range []api.Cmd{put(2, 7, "k", "new"), put(2, 7, "z", "new"), del(2, 7, "k"), del(2, 7, "z"), swap(2, 7, "k", "new", "v"), swap(2, 7, "k", "new", "x")} {
		wantApply(t, s, api.Entry{Index: 6, Term: 3, Cmd: c}, want, first.Reply)
	}
	none := deepCopy(s)
	none.Sessions[1].Seq = 0
	want = deepCopy(none)
	want.Index = 6
	wantApply(t, none, api.Entry{Index: 6, Term: 3, Cmd: put(2, 0, "k", "new")}, want, first.Reply)
}

func TestALesserSeqIsOld(t *testing.T) {
	s := api.State{Index: 5, Term: 3, Pairs: []api.Pair{{Key: "k", Value: "v"}}, Sessions: []api.Session{{Client: 2, Seq: 7, Reply: told("seen")}}}
	want := deepCopy(s)
	want.Index = 6
	for _, seq := range []int{0, 1, 5, 6} {
		for _, c := range []api.Cmd{put(2, seq, "k", "new"), put(2, seq, "z", "new"), del(2, seq, "k"), del(2, seq, "z"), swap(2, seq, "k", "new", "v"), swap(2, seq, "k", "new", "x")} {
			wantApply(t, s, api.Entry{Index: 6, Term: 3, Cmd: c}, want, failed(api.ErrOld))
		}
	}
}

func TestAGreaterSeqIsDone(t *testing.T) {
	for _, seq := range []int{8, 9, 100, million} {
		s := api.State{Index: 5, Term: 3, Pairs: []api.Pair{{Key: "k", Value: "v"}}, Sessions: []api.Session{{Client: 2, Seq: 7, Reply: told("seen")}}}
		s = wantDo(t, s, put(2, seq, "k", "new"), told("v"))
		wantPairs(t, s, api.Pair{Key: "k", Value: "new"})
		wantSessions(t, s, api.Session{Client: 2, Seq: seq, Reply: told("v")})
	}
}

func TestSessionsOfClientsAreApart(t *testing.T) {
	s := wantDo(t, api.State{}, put(2, 5, "a", "2"), told(""))
	s = wantDo(t, s, put(0, 5, "a", "0"), told("2"))
	s = wantDo(t, s, put(3, 0, "a", "3"), told("0"))
	s = wantDo(t, s, put(1, 1, "a", "1"), told("3"))
	wantSessions(t, s,
		api.Session{Client: 0, Seq: 5, Reply: told("2")},
		api.Session{Client: 1, Seq: 1, Reply: told("3")},
		api.Session{Client: 2, Seq: 5, Reply: told("")},
		api.Session{Client: 3, Seq: 0, Reply: told("0")})
	s = wantDo(t, s, put(1, 5, "a", "4"), told("1"))
	s = wantDo(t, s, put(2, 5, "a", "5"), told(""))
	s = wantDo(t, s, put(3, 0, "a", "6"), told("0"))
	s = wantDo(t, s, put(0, 4, "a", "7"), failed(api.ErrOld))
	wantPairs(t, s, api.Pair{Key: "a", Value: "4"})
}

// orders are all orders of numbers.
func orders(ns []int) [][]int {
	if len(ns) == 0 {
		return [][]int{nil}
	}
	var all [][]int
	for at, n := range ns {
		for _, rest := range orders(slices.Concat(ns[:at], ns[at+1:])) {
			all = append(all, append([]int{n}, rest...))
		}
	}
	return all
}

func TestKeysAndSessionsRiseInWhateverOrderTheyCome(t *testing.T) {
	keys := []string{"", "B", "a", "aa", "\xff"}
	for _, order := range orders([]int{0, 1, 2, 3}) {
		s := api.State{}
		for _, n := range order {
			s = wantDo(t, s, put(n, 0, keys[n+1], fmt.Sprint(n)), told(""))
		}
		wantPairs(t, s, api.Pair{Key: "B", Value: "0"}, api.Pair{Key: "a", Value: "1"}, api.Pair{Key: "aa", Value: "2"}, api.Pair{Key: "\xff", Value: "3"})
		wantSessions(t, s, sessions(0, 1, 2, 3)...)
		for n, at := range order {
			value := fmt.Sprint(at)
			s = wantDo(t, s, del(at, 1, keys[at+1]), told(value))
			wantGet(t, s, keys[at+1], failed(api.ErrUnknown))
			if len(s.Pairs) != 3-n || s.Sessions[at] != (api.Session{Client: at, Seq: 1, Reply: told(value)}) {
				t.Fatalf("%#v", s)
			}
		}
	}
}

// What a client was told of a command that failed is told again, also when the command would not fail any more.
func TestACommandThatFailedIsNotDoneLater(t *testing.T) {
	s := wantDo(t, api.State{}, del(1, 1, "k"), failed(api.ErrUnknown))
	wantSessions(t, s, api.Session{Client: 1, Seq: 1, Reply: failed(api.ErrUnknown)})
	s = wantDo(t, s, put(2, 1, "k", "v"), told(""))
	s = wantDo(t, s, del(1, 1, "k"), failed(api.ErrUnknown))
	s = wantDo(t, s, swap(1, 2, "k", "w", "x"), api.Reply{Err: api.ErrMatch, Value: "v"})
	s = wantDo(t, s, put(2, 2, "k", "x"), told("v"))
	s = wantDo(t, s, swap(1, 2, "k", "w", "x"), api.Reply{Err: api.ErrMatch, Value: "v"})
	wantPairs(t, s, api.Pair{Key: "k", Value: "x"})
	wantSessions(t, s, api.Session{Client: 1, Seq: 2, Reply: api.Reply{Err: api.ErrMatch, Value: "v"}}, api.Session{Client: 2, Seq: 2, Reply: told("v")})
}

// wantApart fails if a state that was answered shares anything with another one.
func wantApart(t *testing.T, s, u api.State) {
	t.Helper()
	before := deepCopy(s)
	for n := range u.Pairs {
		u.Pairs[n] = api.Pair{Key: "changed"}
	}
	for n := range u.Sessions {
		u.Sessions[n] = api.Session{Client: -9}
	}
	_ = append(u.Pairs, api.Pair{Key: "more"})
	_ = append(u.Sessions, api.Session{Client: -9})
	wantState(t, s, before)
}

func TestApplySharesNothingWithItsArgument(t *testing.T) {
	for _, c := range []api.Cmd{
		{}, {Op: 9}, put(1, 9, "b", "x"), put(1, 9, "c", "x"), put(1, 3, "c", "x"), put(1, 2, "c", "x"), put(2, 0, "0", "x"),
		del(1, 9, "a"), del(1, 9, "none"), swap(1, 9, "b", "x", "é"), swap(1, 9, "b", "x", "other"),
	} {
		// The room behind the lists is the caller's too.
		s := deepCopy(some[4])
		ps := append(slices.Grow(slices.Clone(s.Pairs), 4), api.Pair{Key: "rest"})
		xs := append(slices.Grow(slices.Clone(s.Sessions), 4), api.Session{Client: 7})
		s.Pairs, s.Sessions = ps[:len(ps)-1], xs[:len(xs)-1]
		u, _ := Apply(s, api.Entry{Index: 6, Term: 1, Cmd: c})
		wantState(t, s, some[4])
		if ps[len(ps)-1].Key != "rest" || xs[len(xs)-1].Client != 7 {
			t.Errorf("%#v wrote behind the lists", c)
		}
		wantApart(t, s, u)
	}
}

// P7.3

func TestPut(t *testing.T) {
	s := wantDo(t, api.State{}, put(1, 1, "k", "v"), told(""))
	wantPairs(t, s, api.Pair{Key: "k", Value: "v"})
	s = wantDo(t, s, put(1, 2, "k", "w"), told("v"))
	wantPairs(t, s, api.Pair{Key: "k", Value: "w"})
	s = wantDo(t, s, put(1, 3, "k", "w"), told("w"))
	s = wantDo(t, s, put(1, 4, "k", ""), told("w"))
	wantPairs(t, s, api.Pair{Key: "k"})
	wantGet(t, s, "k", told(""))
	s = wantDo(t, s, put(1, 5, "k", "1234567890123456"), told(""))
	s = wantDo(t, s, put(1, 6, "12345678", "\x00"), told(""))
	wantPairs(t, s, api.Pair{Key: "12345678", Value: "\x00"}, api.Pair{Key: "k", Value: "1234567890123456"})
	wantSessions(t, s, api.Session{Client: 1, Seq: 6})
}

// An Old is looked at by Swap alone, a Value by Put and Swap.
func TestFieldsThatACommandDoesNotUse(t *testing.T) {
	s := wantDo(t, api.State{}, api.Cmd{Op: api.Put, Seq: 1, Key: "k", Value: "v", Old: "other"}, told(""))
	s = wantDo(t, s, api.Cmd{Op: api.Put, Seq: 2, Key: "k", Value: "w", Old: "other"}, told("v"))
	s = wantDo(t, s, api.Cmd{Op: api.Del, Seq: 3, Key: "k", Value: "x", Old: "other"}, told("w"))
	wantPairs(t, s)
}

func TestDel(t *testing.T) {
	s := wantDo(t, api.State{}, del(1, 1, "k"), failed(api.ErrUnknown))
	wantPairs(t, s)
	s = wantDo(t, s, put(1, 2, "k", "v"), told(""))
	s = wantDo(t, s, put(1, 3, "j", ""), told(""))
	s = wantDo(t, s, del(1, 4, "i"), failed(api.ErrUnknown))
	s = wantDo(t, s, del(1, 5, "jj"), failed(api.ErrUnknown))
	s = wantDo(t, s, del(1, 6, "k"), told("v"))
	wantPairs(t, s, api.Pair{Key: "j"})
	s = wantDo(t, s, del(1, 7, "k"), failed(api.ErrUnknown))
	s = wantDo(t, s, del(1, 8, "j"), told(""))
	wantPairs(t, s)
	s = wantDo(t, s, put(1, 9, "k", "again"), told(""))
	wantPairs(t, s, api.Pair{Key: "k", Value: "again"})
}

func TestSwap(t *testing.T) {
	s := wantDo(t, api.State{}, swap(1, 1, "k", "v", ""), failed(api.ErrUnknown))
	s = wantDo(t, s, swap(1, 2, "k", "v", "x"), failed(api.ErrUnknown))
	wantPairs(t, s)
	s = wantDo(t, s, put(1, 3, "k", "v"), told(""))
	for n, old := range []string{"", "w", "V", "v\x00", "vv", "1234567890123456"} {
		s = wantDo(t, s, swap(1, 4+n, "k", "w", old), api.Reply{Err: api.ErrMatch, Value: "v"})
		wantPairs(t, s, api.Pair{Key: "k", Value: "v"})
		wantSessions(t, s, api.Session{Client: 1, Seq: 4 + n, Reply: api.Reply{Err: api.ErrMatch, Value: "v"}})
	}
	s = wantDo(t, s, swap(1, 20, "k", "w", "v"), told("v"))
	wantPairs(t, s, api.Pair{Key: "k", Value: "w"})
	s = wantDo(t, s, swap(1, 21, "k", "w", "w"), told("w"))
	s = wantDo(t, s, swap(1, 22, "k", "", "w"), told("w"))
	s = wantDo(t, s, swap(1, 23, "k", "x", "w"), api.Reply{Err: api.ErrMatch})
	s = wantDo(t, s, swap(1, 24, "k", "x", ""), told(""))
	s = wantDo(t, s, swap(1, 25, "j", "x", ""), failed(api.ErrUnknown))
	wantPairs(t, s, api.Pair{Key: "k", Value: "x"})
}

func TestPutIntoAFullState(t *testing.T) {
	full := api.State{Pairs: pairs(64)}
	for n, key := range []string{"\x00", "key 0", "key 031a", "key 999", "\xff"} {
		s := wantDo(t, full, put(1, n, key, "v"), failed(api.ErrFull))
		wantPairs(t, s, full.Pairs...)
		wantSessions(t, s, api.Session{Client: 1, Seq: n, Reply: failed(api.ErrFull)})
		wantGet(t, s, key, failed(api.ErrUnknown))
	}
	for n, p := range full.Pairs {
		s := wantDo(t, full, put(1, 1, p.Key, "v"), told(p.Value))
		want := slices.Clone(full.Pairs)
		want[n].Value = "v"
		wantPairs(t, s, want...)
	}
	s := wantDo(t, full, swap(1, 1, "key 005", "v", "the value of 005"), told("the value of 005"))
	s = wantDo(t, s, del(1, 2, "none"), failed(api.ErrUnknown))
	s = wantDo(t, s, swap(1, 3, "none", "v", ""), failed(api.ErrUnknown))
	s = wantDo(t, s, put(2, 1, "new", "v"), failed(api.ErrFull))
	s = wantDo(t, s, del(1, 4, "key 063"), told("the value of 063"))
	s = wantDo(t, s, put(2, 1, "new", "v"), failed(api.ErrFull))
	s = wantDo(t, s, put(2, 2, "new", "v"), told(""))
	s = wantDo(t, s, put(2, 3, "newer", "v"), failed(api.ErrFull))
	if len(s.Pairs) != 64 || s.Pairs[63] != (api.Pair{Key: "new", Value: "v"}) {
		t.Errorf("%#v", s.Pairs)
	}
}

func TestFoldWithoutEntries(t *testing.T) {
	for _, s := range some {
		for _, es := range [][]api.Entry{nil, {}} {
			u := Fold(deepCopy(s), es)
			wantState(t, u, s)
			wantApart(t, s, Fold(s, es))
		}
	}
}

func TestFold(t *testing.T) {
	es := []api.Entry{
		{Index: 1, Term: 1},
		{Index: 2, Term: 1, Cmd: put(1, 1, "b", "1")},
		{Index: 3, Term: 2, Cmd: put(0, 1, "a", "2")},
		{Index: 4, Term: 2, Cmd: put(1, 1, "b", "3")},
		{Index: 5, Term: 4, Cmd: swap(1, 2, "b", "4", "1")},
		{Index: 6, Term: 4, Cmd: del(0, 2, "a")},
	}
	before := slices.Clone(es)
	wantState(t, Fold(api.State{}, es), api.State{Index: 6, Term: 4, Pairs: []api.Pair{{Key: "b", Value: "4"}},
		Sessions: []api.Session{{Client: 0, Seq: 2, Reply: told("2")}, {Client: 1, Seq: 2, Reply: told("1")}}})
	if !slices.Equal(es, before) || !cmds.Row(es, 1) {
		t.Errorf("%#v", es)
	}
	s := api.State{}
	for n, e := range es {
		s, _ = Apply(s, e)
		wantState(t, Fold(api.State{}, es[:n+1]), s)
		wantState(t, Fold(Fold(api.State{}, es[:n]), es[n:]), Fold(api.State{}, es))
	}
}

// An entry that is not applied leaves the state as it is: the next one that fits is still applied.
func TestFoldGoesOnBehindAnError(t *testing.T) {
	s := Fold(api.State{}, []api.Entry{
		{Index: 2, Cmd: put(1, 1, "x", "1")},
		{Index: 1, Cmd: put(1, 1, "", "1")},
		{Index: 1, Term: 2, Cmd: put(1, 1, "a", "1")},
		{Index: 1, Term: 2, Cmd: put(1, 2, "x", "1")},
		{Index: 2, Term: 1, Cmd: put(1, 2, "x", "1")},
		{Index: 2, Term: 2, Cmd: put(1, 2, "b", "2")},
		{Index: 4, Term: 2, Cmd: put(1, 3, "x", "2")},
		{Index: 3, Term: -1},
	})
	wantState(t, s, api.State{Index: 2, Term: 2, Pairs: []api.Pair{{Key: "a", Value: "1"}, {Key: "b", Value: "2"}}, Sessions: []api.Session{{Client: 1, Seq: 2}}})
}

func TestFoldSharesNothingWithItsArguments(t *testing.T) {
	es := []api.Entry{{Index: 6, Term: 1, Cmd: put(1, 9, "b", "x")}, {Index: 7, Term: 1, Cmd: del(2, 9, "a")}, {Index: 8, Term: 1, Cmd: put(0, 9, "zz", "x")}}
	s := deepCopy(some[4])
	u := Fold(s, es)
	wantState(t, s, some[4])
	wantApart(t, s, u)
}

func TestFoldOfManyEntries(t *testing.T) {
	es := make([]api.Entry, 100000)
	for n := range es {
		es[n] = api.Entry{Index: n + 1, Term: n / 7, Cmd: put(n%4, n, fmt.Sprint(n%64), fmt.Sprint(n))}
	}
	s := Fold(api.State{}, es)
	if s.Index != 100000 || s.Term != 99999/7 || len(s.Pairs) != 64 || !Right(s) {
		t.Errorf("%#v", s)
	}
	wantGet(t, s, fmt.Sprint(99999%64), told("99999"))
}

// P7.4

const zeros = "\x00\x00\x00\x00\x00\x00\x00"

func TestBytesWrittenOut(t *testing.T) {
	for _, c := range []struct {
		s    api.State
		want string
	}{
		{api.State{}, strings.Repeat("\x00", 32)},
		{api.State{Index: 258, Term: 2,
			Pairs:    []api.Pair{{Key: "k", Value: "vv"}, {Key: "l", Gone: true}},
			Sessions: []api.Session{{Client: 3, Seq: 5, Reply: api.Reply{Err: api.ErrMatch, Value: "was"}}}},
			"\x00\x00\x00\x00\x00\x00\x01\x02" + zeros + "\x02" +
				zeros + "\x02" + zeros + "\x01k" + zeros + "\x02vv" + "\x00" + zeros + "\x01l" + zeros + "\x00" + "\x01" +
				zeros + "\x01" + zeros + "\x03" + zeros + "\x05" + zeros + "\x0b" + zeros + "\x03was"},
		{api.State{Index: -1, Term: -256, Pairs: []api.Pair{{Value: "v", Gone: true}}, Sessions: []api.Session{{Client: -1, Seq: -2, Reply: failed(-3)}}},
			"\xff\xff\xff\xff\xff\xff\xff\xff" + "\xff\xff\xff\xff\xff\xff\xff\x00" +
				zeros + "\x01" + zeros + "\x00" + zeros + "\x01v" + "\x01" +
				zeros + "\x01" + "\xff\xff\xff\xff\xff\xff\xff\xff" + "\xff\xff\xff\xff\xff\xff\xff\xfe" + "\xff\xff\xff\xff\xff\xff\xff\xfd" + zeros + "\x00"},
	} {
		if b := Bytes(c.s); string(b) != c.want {
			t.Errorf("%#v: %x, not %x", c.s, b, c.want)
		}
	}
}

// wrong are states that are not valid, each by one thing.
func wrong() []api.State {
	ordinary := some[4]
	turn := []func(s *api.State){
		func(s *api.State) { s.Index = -1 },
		func(s *api.State) { s.Index = million + 1 },
		func(s *api.State) { s.Term = -1 },
		func(s *api.State) { s.Term = million + 1 },
		func(s *api.State) { s.Pairs[0].Key = "" },
		func(s *api.State) { s.Pairs[3].Key = "\xff23456789" },
		func(s *api.State) { s.Pairs[1].Key = "a" },
		func(s *api.State) { s.Pairs[1].Key = "b" },
		func(s *api.State) { s.Pairs[2].Key = "\xff\xff" },
		func(s *api.State) { s.Pairs[2].Value = "12345678901234567" },
		func(s *api.State) { s.Pairs[0].Gone = true },
		func(s *api.State) { s.Pairs[3].Gone = true },
		func(s *api.State) { s.Pairs = pairs(65) },
		func(s *api.State) { s.Sessions[0].Client = -1 },
		func(s *api.State) { s.Sessions[0].Client = 3 },
		func(s *api.State) { s.Sessions[1].Client = 0 },
		func(s *api.State) { s.Sessions[1].Client = 4 },
		func(s *api.State) { s.Sessions[0].Seq = -1 },
		func(s *api.State) { s.Sessions[1].Seq = million + 1 },
		func(s *api.State) { s.Sessions[0].Reply.Err = -1 },
		func(s *api.State) { s.Sessions[1].Reply.Err = api.ErrArgument + 1 },
		func(s *api.State) { s.Sessions[1].Reply.Value = "12345678901234567" },
	}
	var all []api.State
	for _, f := range turn {
		s := deepCopy(ordinary)
		f(&s)
		all = append(all, s)
	}
	return all
}

func TestBytesOfEachState(t *testing.T) {
	for _, s := range append(wrong(), some...) {
		before := deepCopy(s)
		if b := Bytes(s); !bytes.Equal(b, slowBytes(s)) {
			t.Errorf("%#v: %x", s, b)
		}
		wantState(t, s, before)
	}
}

func TestPutRowsAppends(t *testing.T) {
	for _, s := range append(wrong(), some...) {
		w := new(pack.Writer).Text("ahead")
		PutRows(w, s.Pairs, s.Sessions)
		w.Byte(7)
		PutRows(w, nil, nil)
		want := append(slowRows(appendText(nil, "ahead"), s.Pairs, s.Sessions), 7)
		if b := w.Bytes(); !bytes.Equal(b, append(want, make([]byte, 16)...)) {
			t.Errorf("%#v: %x", s, b)
		}
	}
}

// What PutRows wrote is read back, valid or not, and what stands behind it is left.
func TestReadRowsOfWhatWasWritten(t *testing.T) {
	for _, s := range append(wrong(), some...) {
		b := slowRows(nil, s.Pairs, s.Sessions)
		r := pack.Of(append(b, 7))
		ps, xs := ReadRows(r)
		if !slices.Equal(ps, s.Pairs) || !slices.Equal(xs, s.Sessions) {
			t.Errorf("%#v, %#v, not %#v", ps, xs, s)
		}
		if r.Bad() || r.Done() || r.Byte() != 7 || !r.Done() {
			t.Errorf("%#v: it did not stop behind the lists", s)
		}
	}
}

func TestReadRowsOfAPairThatIsGone(t *testing.T) {
	for c := range 256 {
		b := appendText(appendText(appendNum(nil, 2), "k"), "v")
		b = appendText(appendText(append(b, byte(c)), "l"), "w")
		b = appendNum(append(b, 0), 0)
		ps, xs := ReadRows(pack.Of(b))
		want := api.Pair{Key: "k", Value: "v", Gone: c == 1}
		if c > 1 {
			want.Key = ""
		}
		if !slices.Equal(ps, []api.Pair{want, {Key: "l", Value: "w"}}) || len(xs) != 0 {
			t.Errorf("%d: %#v, %#v", c, ps, xs)
		}
	}
}

func TestReadRowsCutOff(t *testing.T) {
	const pair, session = 8 + 1 + 8 + 2 + 1, 8 + 8 + 8 + 8 + 3
	b := slowRows(nil, []api.Pair{{Key: "a", Value: "11", Gone: true}, {Key: "b", Value: "22", Gone: true}}, []api.Session{{Client: 1, Seq: 2, Reply: api.Reply{Err: 3, Value: "444"}}})
	first := api.Pair{Key: "a", Value: "11", Gone: true}
	second := api.Pair{Key: "b", Value: "22", Gone: true}
	for n := range b {
		var ps []api.Pair
		var xs []api.Session
		if n >= 8 {
			ps = []api.Pair{cutPair(first, n-8)}
		}
		if n >= 8+pair {
			ps = append(ps, cutPair(second, n-8-pair))
		}
		if at := n - 8 - 2*pair - 8; at >= 0 {
			xs = []api.Session{cutSession(at)}
		}
		r := pack.Of(b[:n])
		gotPairs, gotSessions := ReadRows(r)
		if !slices.Equal(gotPairs, ps) || !slices.Equal(gotSessions, xs) || !r.Bad() {
			t.Errorf("%d bytes: %#v, %#v, not %#v, %#v", n, gotPairs, gotSessions, ps, xs)
		}
		wantRows(t, b[:n])
	}
	if len(b) != 8+2*pair+8+session {
		t.Errorf("%d bytes", len(b))
	}
}

// cutPair is what is left of a pair of 1 and 2 letters, of which n bytes are there.
func cutPair(p api.Pair, n int) api.Pair {
	if n < 9 {
		p.Key = ""
	}
	if n < 19 {
		p.Value = ""
	}
	p.Gone = n >= 20
	return p
}

func cutSession(n int) api.Session {
	var x api.Session
	if n >= 8 {
		x.Client = 1
	}
	if n >= 16 {
		x.Seq = 2
	}
	if n >= 24 {
		x.Reply.Err = 3
	}
	return x
}

// rowsOf are bytes of lists whose numbers of elements are told otherwise than they are.
func rowsOf(nPairs int, ps []api.Pair, nSessions int, xs []api.Session) []byte {
	b := appendNum(nil, nPairs)
	b = append(b, slowRows(nil, ps, nil)[8:]...)
	b = appendNum(b[:len(b)-8], nSessions)
	return append(b, slowRows(nil, nil, xs)[16:]...)
}

func TestReadRowsOfANegativeNumber(t *testing.T) {
	ps, xs := keyed("a", "b"), sessions(1, 2)
	for _, n := range []int{-1, -2, -64, math.MinInt, math.MinInt + 1} {
		gotPairs, gotSessions := ReadRows(pack.Of(rowsOf(n, nil, 2, xs)))
		if len(gotPairs) != 0 || !slices.Equal(gotSessions, xs) {
			t.Errorf("%d pairs: %#v, %#v", n, gotPairs, gotSessions)
		}
		r := pack.Of(rowsOf(2, ps, n, nil))
		gotPairs, gotSessions = ReadRows(r)
		if !slices.Equal(gotPairs, ps) || len(gotSessions) != 0 || !r.Done() {
			t.Errorf("%d sessions: %#v, %#v", n, gotPairs, gotSessions)
		}
		r = pack.Of(rowsOf(n, nil, n, nil))
		gotPairs, gotSessions = ReadRows(r)
		if len(gotPairs) != 0 || len(gotSessions) != 0 || !r.Done() {
			t.Errorf("both %d: %#v, %#v", n, gotPairs, gotSessions)
		}
	}
}

func TestReadRowsOfAGreaterNumber(t *testing.T) {
	xs := sessions(1, 2)
	for _, n := range []int{3, 4, 64, 1 << 32, math.MaxInt} {
		r := pack.Of(rowsOf(2, keyed("a", "b"), n, xs))
		gotPairs, gotSessions := ReadRows(r)
		if !slices.Equal(gotPairs, keyed("a", "b")) || !slices.Equal(gotSessions, append(sessions(1, 2), api.Session{})) || !r.Bad() {
			t.Errorf("%d sessions: %#v, %#v", n, gotPairs, gotSessions)
		}
		b := slowRows(nil, keyed("a", "b"), nil)
		b = b[:len(b)-8]
		copy(b, appendNum(nil, n))
		r = pack.Of(b)
		gotPairs, gotSessions = ReadRows(r)
		if !slices.Equal(gotPairs, keyed("a", "b", "")) || len(gotSessions) != 0 || !r.Bad() {
			t.Errorf("%d pairs: %#v, %#v", n, gotPairs, gotSessions)
		}
	}
}

func TestReadRowsOfLesserNumbers(t *testing.T) {
	wantRows(t, rowsOf(1, keyed("a", "b"), 2, sessions(1, 2)))
	wantRows(t, rowsOf(2, keyed("a", "b"), 1, sessions(1, 2)))
	wantRows(t, rowsOf(0, keyed("a", "b"), 2, sessions(1, 2)))
}

func TestReadRowsOfABadReader(t *testing.T) {
	r := pack.Of(slowRows(appendNum(nil, -1), keyed("a"), sessions(1)))
	r.Text()
	ps, xs := ReadRows(r)
	if !r.Bad() || len(ps) != 0 || len(xs) != 0 {
		t.Errorf("%#v, %#v", ps, xs)
	}
	ps, xs = ReadRows(pack.Of(nil))
	if len(ps) != 0 || len(xs) != 0 {
		t.Errorf("%#v, %#v", ps, xs)
	}
}

func TestReadOfSome(t *testing.T) {
	for _, s := range some {
		wantRead(t, Bytes(s), s)
		wantRead(t, slowBytes(s), s)
	}
}

func TestReadOfWrongStates(t *testing.T) {
	for n, s := range wrong() {
		wantRight(t, s, false)
		wantNone(t, fmt.Sprint("the wrong one ", n), slowBytes(s))
	}
}

func TestReadOfFewBytes(t *testing.T) {
	wantNone(t, "nil", nil)
	for n := range 200 {
		if n == 32 {
			wantRead(t, make([]byte, n), api.State{})
		} else {
			wantNone(t, "zeros", make([]byte, n))
		}
		wantNone(t, "ones", bytes.Repeat([]byte{0xff}, n))
	}
}

func TestReadOfBytesCutOff(t *testing.T) {
	for _, s := range some {
		b := slowBytes(s)
		for n := range b {
			wantNone(t, "cut off", b[:n])
		}
	}
}

func TestReadOfMoreBytes(t *testing.T) {
	for _, s := range some {
		b := slowBytes(s)
		for _, more := range [][]byte{{0}, {1}, {0xe5}, make([]byte, 8), make([]byte, 32), b} {
			wantNone(t, "more behind them", slices.Concat(b, more))
		}
	}
}

// One byte that is another gives another state, or none: never this one, and never one whose bytes are others.
func TestReadOfOneOtherByte(t *testing.T) {
	for _, s := range some[:len(some)-1] {
		b := slowBytes(s)
		for at := range b {
			for c := range 256 {
				other := bytes.Clone(b)
				other[at] = byte(c)
				if bytes.Equal(other, b) {
					continue
				}
				got, ok := Read(other)
				if ok && (equal(got, s) || !Right(got) || !bytes.Equal(slowBytes(got), other)) {
					t.Fatalf("%d is %d: %#v", at, c, got)
				}
				if !ok {
					wantNone(t, "another byte", other)
				}
			}
		}
	}
}

func TestReadOfWrongNumbersOfElements(t *testing.T) {
	head := make([]byte, 16)
	ps, xs := keyed("a", "b"), sessions(1, 2)
	wantRead(t, slices.Concat(head, rowsOf(2, ps, 2, xs)), api.State{Pairs: ps, Sessions: xs})
	for _, n := range []int{-1, -2, math.MinInt, 1, 3, 64, 1 << 32, math.MaxInt} {
		wantNone(t, fmt.Sprint(n, " pairs"), slices.Concat(head, rowsOf(n, ps, 2, xs)))
		wantNone(t, fmt.Sprint(n, " sessions"), slices.Concat(head, rowsOf(2, ps, n, xs)))
		wantNone(t, fmt.Sprint(n, " pairs of none"), slices.Concat(head, rowsOf(n, nil, 0, nil)))
		wantNone(t, fmt.Sprint(n, " sessions of none"), slices.Concat(head, rowsOf(0, nil, n, nil)))
		wantNone(t, fmt.Sprint(n, " pairs of none, and sessions"), slices.Concat(head, rowsOf(n, nil, 2, xs)))
	}
}

func TestReadOfAPairsByte(t *testing.T) {
	b := slowBytes(api.State{Pairs: []api.Pair{{Key: "k", Value: "v"}}})
	at := len(b) - 8 - 1
	for c := 1; c < 256; c++ {
		b[at] = byte(c)
		wantNone(t, fmt.Sprint("the byte ", c), b)
	}
}

func TestReadOfWrongLengths(t *testing.T) {
	b := slowBytes(api.State{Pairs: []api.Pair{{Key: "k", Value: "v"}}, Sessions: []api.Session{{Reply: told("r")}}})
	const atKey, atValue, atReply = 24, 33, 75
	for _, at := range []int{atKey, atValue, atReply} {
		if b[at+7] != 1 {
			t.Fatalf("no text is at %d", at)
		}
		for _, n := range []int{-1, 0, 2, 8, 9, 16, 17, len(b), math.MaxInt, math.MinInt} {
			wantNone(t, fmt.Sprint("a length of ", n, " at ", at), slices.Concat(b[:at], appendNum(nil, n), b[at+8:]))
		}
	}
}

func TestReadKeepsNoBytes(t *testing.T) {
	for _, s := range some {
		b := slowBytes(s)
		got, ok := Read(b)
		if !ok || !bytes.Equal(b, slowBytes(s)) {
			t.Errorf("its argument is changed: %x", b)
		}
		clear(b)
		wantState(t, got, s)
	}
}

func TestBytesAreNew(t *testing.T) {
	for _, s := range some {
		clear(Bytes(s))
		if b := Bytes(s); !bytes.Equal(b, slowBytes(s)) {
			t.Errorf("%x", b)
		}
	}
}

func TestSame(t *testing.T) {
	all := append(wrong(), some...)
	for n, a := range all {
		for m, b := range all {
			if Same(a, deepCopy(b)) != (n == m) {
				t.Errorf("%#v and %#v: %v", a, b, n != m)
			}
		}
	}
	none := api.State{Pairs: []api.Pair{}, Sessions: []api.Session{}}
	if !Same(api.State{}, none) || !Same(none, api.State{}) {
		t.Error("lists without elements are the same")
	}
}

func TestSameOfOneDifference(t *testing.T) {
	s := some[4]
	for n, turn := range []func(s *api.State){
		func(s *api.State) { s.Index++ },
		func(s *api.State) { s.Term++ },
		func(s *api.State) { s.Pairs[1].Key = "ab" },
		func(s *api.State) { s.Pairs[1].Value = "" },
		func(s *api.State) { s.Pairs[1].Gone = true },
		func(s *api.State) { s.Pairs = s.Pairs[:3] },
		func(s *api.State) { s.Pairs[0], s.Pairs[1] = s.Pairs[1], s.Pairs[0] },
		func(s *api.State) { s.Sessions[1].Client = 2 },
		func(s *api.State) { s.Sessions[1].Seq = 1 },
		func(s *api.State) { s.Sessions[1].Reply.Err = 0 },
		func(s *api.State) { s.Sessions[1].Reply.Value = "y" },
		func(s *api.State) { s.Sessions = s.Sessions[1:] },
	} {
		u := deepCopy(s)
		if !Same(s, u) {
			t.Error("a copy is the same")
		}
		turn(&u)
		if Same(s, u) || Same(u, s) {
			t.Errorf("the difference %d", n)
		}
	}
}
