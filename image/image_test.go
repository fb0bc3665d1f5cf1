package image

import (
	"bytes"
	"fmt"
	"math"
	"slices"
	"strings"
	"testing"

	"tephra/api"
	"tephra/cmds"
	"tephra/delta"
	"tephra/state"
)

// million is the greatest index, term and Seq, as the document writes it.
const million = 1 << 20

// headLen is how many bytes a head takes: a frame of 17.
const headLen = 26

// numbers are ordinary ones, those at the edges, and wrong ones.
var numbers = []int{math.MinInt, -1 << 32, -million, -2, -1, 0, 1, 2, 7, 255, 256, million - 1, million, million + 1, 1 << 32, 1<<32 + 1, math.MaxInt - 1, math.MaxInt}

// states and deltas are some that are valid, from which the tests go out.
var states = []api.State{
	{},
	{Index: 5, Term: 2},
	{Index: million, Term: million},
	{Index: 5, Term: 2, Pairs: []api.Pair{{Key: "k", Value: "v"}}},
	{Index: 258, Term: 1, Pairs: []api.Pair{{Key: "\x00"}, {Key: "\xff\xe5", Value: "\xe5"}},
		Sessions: []api.Session{{Client: 1, Seq: 3, Reply: api.Reply{Err: api.ErrMatch, Value: "was"}}, {Client: 3}}},
	{Index: million, Term: million, Pairs: pairs(64),
		Sessions: []api.Session{{}, {Client: 1}, {Client: 2, Seq: million}, {Client: 3, Seq: million, Reply: api.Reply{Err: api.ErrArgument, Value: "1234567890123456"}}}},
}

var deltas = []delta.Delta{
	{},
	{From: 1, To: 2},
	{From: 2, To: 2, Term: 1},
	{To: million},
	{From: million, To: million, Term: million},
	{From: 3, To: 258, Term: 2, Pairs: []api.Pair{{Key: "a", Gone: true}, {Key: "k", Value: "v"}, {Key: "\xff", Value: "\xe5"}},
		Sessions: []api.Session{{Client: 2, Seq: 65537, Reply: api.Reply{Value: "was"}}}},
	{From: 1, To: 9, Term: 1, Pairs: pairs(300)},
	{From: 1, To: 9, Term: 1, Pairs: shortPairs(512), Sessions: []api.Session{{}, {Client: 1}, {Client: 2}, {Client: 3}}},
}

// pairs are so many, of rising keys, each as long as it may be.
func pairs(n int) []api.Pair {
	var ps []api.Pair
	for k := range n {
		ps = append(ps, api.Pair{Key: fmt.Sprintf("key %04d", k), Value: fmt.Sprintf("the value of %03d", k%1000)})
	}
	return ps
}

// shortPairs are so many, with keys of three bytes and no values.
func shortPairs(n int) []api.Pair {
	var ps []api.Pair
	for k := range n {
		ps = append(ps, api.Pair{Key: fmt.Sprintf("%03d", k), Gone: k%2 == 0})
	}
	return ps
}

// row are entries of these indices, of several kinds, whose terms rise at times.
func row(indices ...int) []api.Entry {
	var es []api.Entry
	for n, index := range indices {
		e := api.Entry{Index: index, Term: 1 + n/2}
		if op := api.Op(n % 4); op != api.Nop {
			e.Cmd = api.Cmd{Op: op, Client: n % 4, Seq: index, Key: fmt.Sprint("k", n), Value: "\xe5", Old: "\x00"}
		}
		es = append(es, e)
	}
	return es
}

func wantState(t *testing.T, got, want api.State) {
	t.Helper()
	if got.Index != want.Index || got.Term != want.Term || !slices.Equal(got.Pairs, want.Pairs) || !slices.Equal(got.Sessions, want.Sessions) {
		t.Fatalf("%#v, not %#v", got, want)
	}
}

func wantDelta(t *testing.T, got, want delta.Delta) {
	t.Helper()
	if got.From != want.From || got.To != want.To || got.Term != want.Term || !slices.Equal(got.Pairs, want.Pairs) || !slices.Equal(got.Sessions, want.Sessions) {
		t.Fatalf("%#v, not %#v", got, want)
	}
}

func wantBytes(t *testing.T, what string, got, want []byte) {
	t.Helper()
	if !bytes.Equal(got, want) {
		t.Fatalf("%s: %x, not %x", what, got, want)
	}
}

// wantNone fails if bytes are read as a state or as a delta, and so does each of the next two for one of them.
func wantNone(t *testing.T, what string, b []byte) {
	t.Helper()
	wantNoFull(t, what, b)
	wantNoDelta(t, what, b)
}

func wantNoFull(t *testing.T, what string, b []byte) {
	t.Helper()
	if s, e := holdFull(t, b); e != api.ErrCorrupt {
		t.Fatalf("%s: %x: %#v", what, b, s)
	}
}

func wantNoDelta(t *testing.T, what string, b []byte) {
	t.Helper()
	if d, e := holdDelta(t, b); e != api.ErrCorrupt {
		t.Fatalf("%s: %x: %#v", what, b, d)
	}
}

func wantFull(t *testing.T, b []byte, want api.State) {
	t.Helper()
	got, e := holdFull(t, b)
	if e != 0 {
		t.Fatalf("%x: error %d", b, e)
	}
	wantState(t, got, want)
}

func wantDeltaFile(t *testing.T, b []byte, want delta.Delta) {
	t.Helper()
	got, e := holdDelta(t, b)
	if e != 0 {
		t.Fatalf("%x: error %d", b, e)
	}
	wantDelta(t, got, want)
}

// wantPart fails unless these entries are read, the last of which ends there.
func wantPart(t *testing.T, b []byte, from int, want []api.Entry, wantEnd int) {
	t.Helper()
	got, end, e := holdPart(t, b, from)
	if !slices.Equal(got, want) || end != wantEnd || e != 0 {
		t.Fatalf("%x from %d: %#v, %d, error %d, not %#v, %d", b, from, got, end, e, want, wantEnd)
	}
}

func wantNoPart(t *testing.T, what string, b []byte, from int) {
	t.Helper()
	if es, end, e := holdPart(t, b, from); len(es) != 0 || end != 0 || e != api.ErrCorrupt {
		t.Fatalf("%s: %x from %d: %#v, %d, error %d", what, b, from, es, end, e)
	}
}

// changed is a copy with one byte set.
func changed(b []byte, at int, c byte) []byte {
	b = bytes.Clone(b)
	b[at] = c
	return b
}

// P9.1

func TestConstantsAreThoseOfTheDocument(t *testing.T) {
	if api.Full != 0 || api.Delta != 1 || api.Part != 2 || api.MaxFrame != 16384 || api.MaxEntry != million || api.MaxKeys != 64 {
		t.Error("the promises name other numbers")
	}
}

const zeros = "\x00\x00\x00\x00\x00\x00\x00"

// The bytes but the sums, which are those of frame.
func TestFilesWrittenOut(t *testing.T) {
	full, e := Full(api.State{Index: 258, Term: 2})
	if e != 0 {
		t.Fatal(e)
	}
	change, e := Delta(delta.Delta{From: 1, To: 2, Term: 3})
	if e != 0 {
		t.Fatal(e)
	}
	for _, c := range []struct {
		b    []byte
		want []string
	}{
		{full, []string{
			"\x00\x00\x00\x11", "\x00" + "\x00\x00\x00\x00\x00\x00\x01\x02" + "\x00\x00\x00\x00\x00\x00\x01\x02" + "\xe5",
			"\x00\x00\x00\x20", "\x00\x00\x00\x00\x00\x00\x01\x02" + zeros + "\x02" + zeros + "\x00" + zeros + "\x00" + "\xe5"}},
		{change, []string{
			"\x00\x00\x00\x11", "\x01" + zeros + "\x01" + zeros + "\x02" + "\xe5",
			"\x00\x00\x00\x28", zeros + "\x01" + zeros + "\x02" + zeros + "\x03" + zeros + "\x00" + zeros + "\x00" + "\xe5"}},
		{Part(-2), []string{
			"\x00\x00\x00\x11", "\x02" + "\xff\xff\xff\xff\xff\xff\xff\xfe" + "\xff\xff\xff\xff\xff\xff\xff\xfe" + "\xe5"}},
		{Entry(api.Entry{Index: 3, Term: 2, Cmd: api.Cmd{Op: api.Del, Client: 1, Seq: 4, Key: "k"}}), []string{
			"\x00\x00\x00\x3a", zeros + "\x03" + zeros + "\x02" + "\x02" + zeros + "\x01" + zeros + "\x04" + zeros + "\x01k" + zeros + "\x00" + zeros + "\x00" + "\xe5"}},
	} {
		at := 0
		for n, want := range c.want {
			got := string(c.b[at:min(at+len(want), len(c.b))])
			if got != want {
				t.Errorf("%x: part %d is %x, not %x", c.b, n, got, want)
			}
			at += len(want)
			if n%2 == 0 {
				at += 4
			}
		}
		if at != len(c.b) {
			t.Errorf("%x: %d bytes, not %d", c.b, len(c.b), at)
		}
	}
}

func TestPartOfThreeWithItsSum(t *testing.T) {
	wantBytes(t, "Part(3)", Part(3), []byte("\x00\x00\x00\x11"+"\xbd\x57\x0c\x05"+"\x02"+zeros+"\x03"+zeros+"\x03"+"\xe5"))
}

func copyState(s api.State) api.State {
	s.Pairs, s.Sessions = slices.Clone(s.Pairs), slices.Clone(s.Sessions)
	return s
}

func copyDelta(d delta.Delta) delta.Delta {
	d.Pairs, d.Sessions = slices.Clone(d.Pairs), slices.Clone(d.Sessions)
	return d
}

// wrongStates and wrongDeltas are not valid, each by one thing; their contents can be made frames.
func wrongStates() []api.State {
	var all []api.State
	for _, turn := range []func(s *api.State){
		func(s *api.State) { s.Index = -1 },
		func(s *api.State) { s.Index = million + 1 },
		func(s *api.State) { s.Index = math.MaxInt },
		func(s *api.State) { s.Term = -1 },
		func(s *api.State) { s.Term = million + 1 },
		func(s *api.State) { s.Pairs[0].Key = "" },
		func(s *api.State) { s.Pairs[1].Key = "\xff23456789" },
		func(s *api.State) { s.Pairs[1].Key = "\x00" },
		func(s *api.State) { s.Pairs[0].Gone = true },
		func(s *api.State) { s.Pairs[0].Value = "12345678901234567" },
		func(s *api.State) { s.Pairs = pairs(65) },
		func(s *api.State) { s.Sessions[1].Client = 4 },
		func(s *api.State) { s.Sessions[1].Client = 1 },
		func(s *api.State) { s.Sessions[0].Seq = million + 1 },
		func(s *api.State) { s.Sessions[0].Reply.Err = api.ErrArgument + 1 },
	} {
		s := copyState(states[4])
		turn(&s)
		all = append(all, s)
	}
	return all
}

func wrongDeltas() []delta.Delta {
	var all []delta.Delta
	for _, turn := range []func(d *delta.Delta){
		func(d *delta.Delta) { d.From = -1 },
		func(d *delta.Delta) { d.From = 259 },
		func(d *delta.Delta) { d.To = million + 1 },
		func(d *delta.Delta) { d.To = 2 },
		func(d *delta.Delta) { d.From, d.To = math.MinInt, math.MaxInt },
		func(d *delta.Delta) { d.Term = -1 },
		func(d *delta.Delta) { d.Term = million + 1 },
		func(d *delta.Delta) { d.Pairs[0].Key = "" },
		func(d *delta.Delta) { d.Pairs[1].Key = "a" },
		func(d *delta.Delta) { d.Pairs[0].Value = "v" },
		func(d *delta.Delta) { d.Pairs = shortPairs(513) },
		func(d *delta.Delta) { d.Sessions[0].Client = -1 },
		func(d *delta.Delta) { d.Sessions[0].Seq = -1 },
		func(d *delta.Delta) { d.Sessions[0].Reply.Value = "12345678901234567" },
	} {
		d := copyDelta(deltas[5])
		turn(&d)
		all = append(all, d)
	}
	return all
}

// A state or delta that is not valid is written too: P9.1 asks for no more than a frame.
func TestFull(t *testing.T) {
	for _, s := range append(wrongStates(), states...) {
		before := copyState(s)
		b, e := Full(s)
		if e != 0 {
			t.Fatalf("%#v: error %d", s, e)
		}
		wantBytes(t, "Full", b, slowFull(s))
		wantState(t, s, before)
	}
}

func TestDelta(t *testing.T) {
	for _, d := range append(wrongDeltas(), deltas...) {
		before := copyDelta(d)
		b, e := Delta(d)
		if e != 0 {
			t.Fatalf("%#v: error %d", d, e)
		}
		wantBytes(t, "Delta", b, slowDelta(d))
		wantDelta(t, d, before)
	}
}

func TestIndicesOfHeads(t *testing.T) {
	for _, from := range numbers {
		full, e := Full(api.State{Index: from})
		if e != 0 {
			t.Fatalf("%d: error %d", from, e)
		}
		wantBytes(t, "the head of Full", full[:headLen], slowHead(0, from, from))
		wantBytes(t, "Part", Part(from), slowHead(2, from, from))
		for _, to := range numbers {
			change, e := Delta(delta.Delta{From: from, To: to})
			if e != 0 {
				t.Fatalf("%d: error %d", from, e)
			}
			wantBytes(t, "the head of Delta", change[:headLen], slowHead(1, from, to))
		}
	}
}

// fill is a text with which a row of bytes that has so many without it has so many more.
func fill(without, with int) string {
	return strings.Repeat("f", with-without)
}

// A state that is valid is always short enough, so these are not.
func TestFullOfManyBytes(t *testing.T) {
	least := len(state.Bytes(api.State{Pairs: []api.Pair{{Key: "k"}}}))
	for _, n := range []int{16000, 16383, 16384, 16385, 16386, 20000, 1 << 20} {
		s := api.State{Index: 7, Pairs: []api.Pair{{Key: "k", Value: fill(least, n)}}}
		b, e := Full(s)
		if n <= 16384 {
			wantBytes(t, "Full", b, slowFull(s))
			if e != 0 || len(b) != headLen+n+9 {
				t.Errorf("%d bytes: %d, error %d", n, len(b), e)
			}
		} else if len(b) != 0 || e != api.ErrFull {
			t.Errorf("%d bytes: %d, error %d", n, len(b), e)
		}
	}
	if b, e := Full(api.State{Pairs: pairs(400)}); len(b) != 0 || e != api.ErrFull {
		t.Errorf("%d bytes, error %d", len(b), e)
	}
}

// deltaOf is a valid delta of which the encoding has so many bytes.
func deltaOf(t *testing.T, n int) delta.Delta {
	t.Helper()
	d := delta.Delta{From: 3, To: 9, Term: 2, Pairs: shortPairs(512)}
	left := n - len(delta.Bytes(d))
	for k := range d.Pairs {
		more := min(left, 16)
		if !d.Pairs[k].Gone {
			d.Pairs[k].Value = strings.Repeat("v", more)
			left -= more
		}
	}
	// 256 values of 16 bytes are not enough: keys are made longer at their ends, which keeps their order.
	for k := range d.Pairs {
		more := min(left, 5)
		d.Pairs[k].Key += strings.Repeat("k", more)
		left -= more
	}
	if left != 0 || !delta.Right(d) || len(delta.Bytes(d)) != n {
		t.Fatalf("%d bytes, not %d", len(delta.Bytes(d)), n)
	}
	return d
}

func TestDeltaOfManyBytes(t *testing.T) {
	for n := 16380; n <= 16390; n++ {
		d := deltaOf(t, n)
		b, e := Delta(d)
		if n <= 16384 {
			wantBytes(t, "Delta", b, slowDelta(d))
			if e != 0 || len(b) != headLen+n+9 {
				t.Errorf("%d bytes: %d, error %d", n, len(b), e)
			}
			wantDeltaFile(t, b, d)
		} else {
			if len(b) != 0 || e != api.ErrFull {
				t.Errorf("%d bytes: %d, error %d", n, len(b), e)
			}
			wantNone(t, "no frame has so many bytes", slowDelta(d))
		}
	}
	if b, e := Delta(delta.Delta{Pairs: pairs(512)}); len(b) != 0 || e != api.ErrFull {
		t.Errorf("%d bytes, error %d", len(b), e)
	}
}

func TestEntry(t *testing.T) {
	for _, e := range row(1, 2, 3, 4, 5, million) {
		wantBytes(t, "Entry", Entry(e), slowFrame(cmds.Bytes(e)))
	}
	for _, n := range numbers {
		for _, e := range []api.Entry{
			{Index: n},
			{Index: 1, Term: n},
			{Index: 1, Term: 1, Cmd: api.Cmd{Op: api.Op(n), Key: "k"}},
			{Index: n, Term: n, Cmd: api.Cmd{Op: api.Swap, Client: n, Seq: n}},
		} {
			wantBytes(t, "Entry", Entry(e), slowFrame(cmds.Bytes(e)))
		}
	}
	wantBytes(t, "Entry", Entry(api.Entry{}), slowFrame(cmds.Bytes(api.Entry{})))
}

// There is no frame of an entry whose texts are too long, so there are no bytes.
func TestEntryOfManyBytes(t *testing.T) {
	least := len(cmds.Bytes(api.Entry{}))
	for _, n := range []int{300, 16383, 16384, 16385, 20000, 1 << 20} {
		long := fill(least, n)
		for _, c := range []api.Cmd{{Key: long}, {Value: long}, {Old: long}} {
			e := api.Entry{Index: 1, Cmd: c}
			if b := Entry(e); n <= 16384 {
				wantBytes(t, "Entry", b, slowFrame(cmds.Bytes(e)))
			} else if len(b) != 0 {
				t.Errorf("%d bytes: %d", n, len(b))
			}
		}
	}
}

func TestFilesAreNew(t *testing.T) {
	s, d, e := states[4], deltas[5], row(1, 2, 3)[2]
	for range 3 {
		full, _ := Full(s)
		change, _ := Delta(d)
		part, entry := Part(3), Entry(e)
		wantBytes(t, "Full", full, slowFull(s))
		wantBytes(t, "Delta", change, slowDelta(d))
		wantBytes(t, "Part", part, slowPart(3))
		wantBytes(t, "Entry", entry, slowFrame(cmds.Bytes(e)))
		for _, b := range [][]byte{full, change, part, entry} {
			clear(b[:cap(b)])
		}
	}
}

// P9.2

func TestReadFull(t *testing.T) {
	for _, s := range states {
		b, _ := Full(s)
		wantFull(t, b, s)
	}
}

func TestReadDelta(t *testing.T) {
	for _, d := range deltas {
		b, _ := Delta(d)
		wantDeltaFile(t, b, d)
	}
}

func TestReadOfWhatIsNotValid(t *testing.T) {
	for _, s := range wrongStates() {
		b, _ := Full(s)
		wantNone(t, "a wrong state", b)
	}
	for _, d := range wrongDeltas() {
		b, _ := Delta(d)
		wantNone(t, "a wrong delta", b)
	}
}

func TestReadOfAnotherKindOfFile(t *testing.T) {
	for _, s := range states {
		b := slowFull(s)
		wantNoDelta(t, "a state", b)
		wantNoPart(t, "a state", b, s.Index)
		wantNoPart(t, "a state", b, 0)
	}
	for _, d := range deltas {
		b := slowDelta(d)
		wantNoFull(t, "a delta", b)
		wantNoPart(t, "a delta", b, d.From)
		wantNoPart(t, "a delta", b, d.To)
	}
	for from := range 4 {
		for n := range 3 {
			wantNone(t, "a part", slowPart(from, row(from+1, from+2)[:n]...))
		}
	}
}

// The head says one thing, what follows it another one.
func TestReadFullOfAnotherHead(t *testing.T) {
	for _, s := range states[:5] {
		rest := slowFull(s)[headLen:]
		wantHead := func(kind byte, from, to int) {
			t.Helper()
			b := slices.Concat(slowHead(kind, from, to), rest)
			if kind == 0 && from == s.Index && to == s.Index {
				wantFull(t, b, s)
			} else {
				wantNoFull(t, "another head", b)
			}
			wantNoDelta(t, "a state", b)
		}
		for kind := range 256 {
			wantHead(byte(kind), s.Index, s.Index)
		}
		for _, n := range append(numbers, s.Index-1, s.Index, s.Index+1) {
			for kind := range byte(4) {
				wantHead(kind, n, n)
				wantHead(kind, n, s.Index)
				wantHead(kind, s.Index, n)
			}
		}
	}
}

func TestReadDeltaOfAnotherHead(t *testing.T) {
	for _, d := range deltas[:6] {
		rest := slowDelta(d)[headLen:]
		wantHead := func(kind byte, from, to int) {
			t.Helper()
			b := slices.Concat(slowHead(kind, from, to), rest)
			if kind == 1 && from == d.From && to == d.To {
				wantDeltaFile(t, b, d)
			} else {
				wantNoDelta(t, "another head", b)
			}
			wantNoFull(t, "a delta", b)
		}
		for kind := range 256 {
			wantHead(byte(kind), d.From, d.To)
		}
		for _, from := range append(numbers, d.From-1, d.From, d.From+1, d.To) {
			for _, to := range []int{d.From, d.To - 1, d.To, d.To + 1, from} {
				wantHead(1, from, to)
			}
			wantHead(1, d.From, from)
			wantHead(0, from, from)
		}
	}
}

// nearlyHeads are bytes that are nearly a head of 5 and 5, by what is wrong.
func nearlyHeads(kind byte) map[string][]byte {
	contents := appendNum(appendNum([]byte{kind}, 5), 5)
	return map[string][]byte{
		"nothing":           nil,
		"an empty frame":    slowFrame(nil),
		"the kind alone":    slowFrame(contents[:1]),
		"one index":         slowFrame(contents[:9]),
		"one byte less":     slowFrame(contents[:16]),
		"one byte more":     slowFrame(append(slices.Clone(contents), 0)),
		"one index more":    slowFrame(appendNum(slices.Clone(contents), 5)),
		"no kind":           slowFrame(contents[1:]),
		"two heads":         slices.Concat(slowFrame(contents), slowFrame(contents)),
		"a byte ahead":      append([]byte{0}, slowFrame(contents)...),
		"no frame":          contents,
		"an entry's frame":  slowFrame(cmds.Bytes(api.Entry{Index: 5})),
		"an empty one more": slices.Concat(slowFrame(contents), slowFrame(nil)),
	}
}

func TestReadOfWhatIsNearlyAHead(t *testing.T) {
	s := api.State{Index: 5, Term: 2}
	d := delta.Delta{From: 5, To: 5, Term: 2}
	for what, h := range nearlyHeads(0) {
		wantNone(t, what, slices.Concat(h, slowFrame(state.Bytes(s))))
	}
	for what, h := range nearlyHeads(1) {
		wantNone(t, what, slices.Concat(h, slowFrame(delta.Bytes(d))))
	}
}

// What stands behind the head is one frame of a state or a delta, and no more.
func TestReadOfOtherContents(t *testing.T) {
	s, d := api.State{Index: 5, Term: 2}, delta.Delta{From: 5, To: 5, Term: 2}
	one, two := state.Bytes(s), delta.Bytes(d)
	for _, rest := range [][]byte{
		nil,
		slowFrame(nil),
		one,
		two,
		slowFrame(one[:len(one)-1]),
		slowFrame(two[:len(two)-1]),
		slowFrame(append(slices.Clone(one), 0)),
		slowFrame(append(slices.Clone(two), 0)),
		slowFrame(slices.Concat(one, one)),
		slowFrame(slices.Concat(two, two)),
		slices.Concat(slowFrame(one), slowFrame(one)),
		slices.Concat(slowFrame(two), slowFrame(two)),
		slices.Concat(slowFrame(nil), slowFrame(one)),
		slices.Concat(slowFrame(nil), slowFrame(two)),
		slices.Concat(slowFrame(one), slowFrame(nil)),
		slices.Concat(slowFrame(two), slowFrame(nil)),
		slowFrame(cmds.Bytes(api.Entry{Index: 5})),
		slowFull(s),
		slowDelta(d),
	} {
		wantNone(t, "other contents", slices.Concat(slowHead(0, 5, 5), rest))
		wantNone(t, "other contents", slices.Concat(slowHead(1, 5, 5), rest))
	}
	wantFull(t, slices.Concat(slowHead(0, 5, 5), slowFrame(one)), s)
	wantDeltaFile(t, slices.Concat(slowHead(1, 5, 5), slowFrame(two)), d)
	wantNone(t, "a delta in a state's file", slices.Concat(slowHead(0, 5, 5), slowFrame(two)))
	wantNone(t, "a state in a delta's file", slices.Concat(slowHead(1, 5, 5), slowFrame(one)))
}

func TestReadOfFewBytes(t *testing.T) {
	wantNone(t, "nil", nil)
	wantNoPart(t, "nil", nil, 0)
	for n := range 100 {
		for _, b := range [][]byte{make([]byte, n), bytes.Repeat([]byte{0xff}, n), bytes.Repeat([]byte{0xe5}, n)} {
			wantNone(t, "few bytes", b)
			wantNoPart(t, "few bytes", b, 0)
		}
	}
}

// files are those of all states and deltas; small are those that are not long.
func files() [][]byte {
	var all [][]byte
	for _, s := range states {
		all = append(all, slowFull(s))
	}
	for _, d := range deltas {
		all = append(all, slowDelta(d))
	}
	return all
}

func small() [][]byte {
	return slices.DeleteFunc(files(), func(b []byte) bool { return len(b) > 400 })
}

func TestReadOfBytesCutOff(t *testing.T) {
	for _, b := range small() {
		for n := range b {
			wantNone(t, "cut off", b[:n])
			wantNone(t, "cut off ahead", b[n+1:])
		}
	}
	for _, b := range files() {
		for n := 0; n < len(b); n += 97 {
			wantNone(t, "cut off", b[:n])
		}
		wantNone(t, "cut off", b[:len(b)-1])
	}
}

func TestReadOfMoreBytes(t *testing.T) {
	for _, b := range files() {
		for _, more := range [][]byte{{0}, {0xe5}, make([]byte, 8), make([]byte, 9), slowFrame(nil), slowFrame([]byte("a")), b[:headLen], b[headLen:], b} {
			wantNone(t, "more behind", slices.Concat(b, more))
			wantNone(t, "more ahead", slices.Concat(more, b))
		}
	}
}

func TestReadOfOneOtherByte(t *testing.T) {
	for _, b := range [][]byte{slowFull(states[3]), slowDelta(deltas[1])} {
		for at := range b {
			for c := range 256 {
				if b[at] != byte(c) {
					wantNone(t, "another byte", changed(b, at, byte(c)))
				}
			}
		}
	}
	for _, b := range small() {
		for at := range b {
			for bit := range 8 {
				wantNone(t, "another bit", changed(b, at, b[at]^1<<bit))
			}
		}
	}
	for _, b := range files() {
		for at := 0; at < len(b); at += 31 {
			wantNone(t, "another byte", changed(b, at, b[at]+1))
		}
	}
}

func TestReadKeepsNothing(t *testing.T) {
	for _, s := range states {
		b := slowFull(s)
		got, _ := ReadFull(b)
		clear(b)
		wantState(t, got, s)
	}
	for _, d := range deltas {
		b := slowDelta(d)
		got, _ := ReadDelta(b)
		clear(b)
		wantDelta(t, got, d)
	}
}

// P9.3

// ends are where each entry's frame of a part ends, the head's ahead of them.
func ends(es []api.Entry) []int {
	all := []int{headLen}
	for _, e := range es {
		all = append(all, all[len(all)-1]+len(cmds.Bytes(e))+9)
	}
	return all
}

func TestReadPart(t *testing.T) {
	for _, from := range []int{0, 1, 3, 255, million - 5, million - 4} {
		es := row(from+1, from+2, from+3, from+4)
		at := ends(es)
		b := Part(from)
		for n, e := range es {
			wantPart(t, b, from, es[:n], at[n])
			b = append(b, Entry(e)...)
		}
		wantPart(t, b, from, es, at[4])
	}
}

// A part without entries may have any index, also one behind which no entry may be.
func TestReadPartWithoutEntries(t *testing.T) {
	for _, from := range numbers {
		wantPart(t, Part(from), from, nil, headLen)
		wantPart(t, append(Part(from), 0), from, nil, headLen)
		for _, other := range numbers {
			if other != from {
				wantNoPart(t, "another from", Part(from), other)
			}
		}
	}
}

func TestReadPartOfNumbersThatNoEntryFollows(t *testing.T) {
	for _, from := range []int{-1, -2, million, million + 1, math.MaxInt, math.MinInt} {
		for _, index := range []int{1, from, from + 1, 0} {
			b := append(Part(from), Entry(api.Entry{Index: index})...)
			wantNoPart(t, fmt.Sprint("the index ", index), b, from)
		}
	}
	last := api.Entry{Index: million, Term: million}
	wantPart(t, append(Part(million-1), Entry(last)...), million-1, []api.Entry{last}, ends([]api.Entry{last})[1])
}

func TestReadPartCutOff(t *testing.T) {
	es := row(4, 5, 6, 7)
	at := ends(es)
	b := slowPart(3, es...)
	for n := range len(b) + 1 {
		if n < headLen {
			wantNoPart(t, "no whole head", b[:n], 3)
			continue
		}
		whole := 0
		for at[whole] <= n && whole < 4 {
			whole++
		}
		if at[whole] > n {
			whole--
		}
		wantPart(t, b[:n], 3, es[:whole], at[whole])
	}
}

func TestReadPartFromAnotherIndex(t *testing.T) {
	b := slowPart(3, row(4, 5)...)
	for from := -3; from < 10; from++ {
		if from == 3 {
			wantPart(t, b, from, row(4, 5), len(b))
		} else {
			wantNoPart(t, "another from", b, from)
		}
	}
	for _, from := range numbers {
		wantNoPart(t, "another from", b, from)
	}
	for _, from := range []int{3 + 1<<32, 3 - 1<<63, 3 + 256} {
		wantNoPart(t, "another from", b, from)
	}
}

func TestReadPartOfAnotherHead(t *testing.T) {
	rest := slowPart(5, row(6, 7)...)[headLen:]
	for kind := range 256 {
		for from := 3; from < 9; from++ {
			for to := 3; to < 9; to++ {
				b := slices.Concat(slowHead(byte(kind), from, to), rest)
				if kind == 2 && from == 5 && to == 5 {
					wantPart(t, b, 5, row(6, 7), len(b))
				} else {
					wantNoPart(t, "another head", b, 5)
				}
			}
		}
	}
	for what, h := range nearlyHeads(2) {
		wantNoPart(t, what, slices.Concat(h, rest), 5)
	}
	for at := range headLen {
		for c := range 256 {
			b := slowPart(5, row(6, 7)...)
			if b[at] != byte(c) {
				wantNoPart(t, "another byte of the head", changed(b, at, byte(c)), 5)
			}
		}
	}
}

// nothings are what frames may have that are no valid entry of the index 6.
func nothings() map[string][]byte {
	good := cmds.Bytes(api.Entry{Index: 6, Term: 1})
	return map[string][]byte{
		"nothing":         nil,
		"a zero":          {0},
		"zeros":           make([]byte, len(good)),
		"many bytes":      make([]byte, 16384),
		"one byte less":   good[:len(good)-1],
		"one byte more":   append(slices.Clone(good), 0),
		"two entries":     slices.Concat(good, cmds.Bytes(api.Entry{Index: 7, Term: 1})),
		"a state":         state.Bytes(api.State{Index: 6}),
		"a delta":         delta.Bytes(delta.Delta{From: 5, To: 6}),
		"a head":          appendNum(appendNum([]byte{2}, 5), 5),
		"an entry framed": slowFrame(good),
		"a term below 0":  cmds.Bytes(api.Entry{Index: 6, Term: -1}),
		"a great term":    cmds.Bytes(api.Entry{Index: 6, Term: million + 1}),
		"no such op":      cmds.Bytes(api.Entry{Index: 6, Term: 1, Cmd: api.Cmd{Op: api.Ops, Key: "k"}}),
		"a Nop with more": cmds.Bytes(api.Entry{Index: 6, Term: 1, Cmd: api.Cmd{Seq: 1}}),
		"no key":          cmds.Bytes(api.Entry{Index: 6, Term: 1, Cmd: api.Cmd{Op: api.Put}}),
		"a long key":      cmds.Bytes(api.Entry{Index: 6, Term: 1, Cmd: api.Cmd{Op: api.Put, Key: "123456789"}}),
		"a long value":    cmds.Bytes(api.Entry{Index: 6, Term: 1, Cmd: api.Cmd{Op: api.Put, Key: "k", Value: "12345678901234567"}}),
		"a long old":      cmds.Bytes(api.Entry{Index: 6, Term: 1, Cmd: api.Cmd{Op: api.Swap, Key: "k", Old: "12345678901234567"}}),
		"client 4":        cmds.Bytes(api.Entry{Index: 6, Term: 1, Cmd: api.Cmd{Op: api.Del, Client: 4, Key: "k"}}),
		"a great Seq":     cmds.Bytes(api.Entry{Index: 6, Term: 1, Cmd: api.Cmd{Op: api.Del, Seq: million + 1, Key: "k"}}),
	}
}

// A whole frame that has no entry is never left by an append that was cut off, so the file is corrupt wherever the frame stands.
func TestReadPartOfWhatIsNoEntry(t *testing.T) {
	for what, contents := range nothings() {
		wrong := slowFrame(contents)
		wantNoPart(t, what, slices.Concat(slowPart(5), wrong), 5)
		wantNoPart(t, what, slices.Concat(slowPart(4, row(5)...), wrong), 4)
		wantNoPart(t, what, slices.Concat(slowPart(4, row(5)...), wrong, slowFrame(cmds.Bytes(api.Entry{Index: 6, Term: 9}))), 4)
		wantNoPart(t, what, slices.Concat(slowPart(4, row(5)...), wrong, slowFrame(cmds.Bytes(api.Entry{Index: 7, Term: 9}))), 4)
		wantNoPart(t, what, slices.Concat(slowPart(3, row(4, 5)...), wrong, []byte{0}), 3)
		wantNoPart(t, what, slices.Concat(slowPart(5, row(6, 7, 8)...), wrong), 5)
	}
}

func TestReadPartOfOtherIndices(t *testing.T) {
	for _, indices := range [][]int{{1}, {3}, {5}, {6}, {8}, {3, 4}, {5, 6}, {4, 4}, {4, 6}, {5, 4}, {4, 3}, {4, 5, 7}, {4, 6, 7}, {4, 5, 5}, {4, 5, 6, 6}, {4, 5, 6, 8}, {4, 5, 6, 1}, {4, 4, 5, 6}, {4, million}} {
		b := slowPart(3, row(indices...)...)
		wantNoPart(t, fmt.Sprint("indices ", indices), b, 3)
		wantNoPart(t, fmt.Sprint("indices ", indices), append(b, 0), 3)
	}
	wantPart(t, slowPart(3, row(4, 5, 6, 7)...), 3, row(4, 5, 6, 7), ends(row(4, 5, 6, 7))[4])
}

func TestReadPartOfTerms(t *testing.T) {
	for first := range 4 {
		for second := range 4 {
			for third := range 4 {
				es := []api.Entry{{Index: 4, Term: first}, {Index: 5, Term: second}, {Index: 6, Term: third}}
				b := slowPart(3, es...)
				if first <= second && second <= third {
					wantPart(t, b, 3, es, len(b))
				} else {
					wantNoPart(t, "the terms fall", b, 3)
				}
			}
		}
	}
	es := []api.Entry{{Index: 4, Term: 0}, {Index: 5, Term: million}, {Index: 6, Term: million}}
	wantPart(t, slowPart(3, es...), 3, es, ends(es)[3])
	es[2].Term--
	wantNoPart(t, "the terms fall", slowPart(3, es...), 3)
}

// Behind a frame that is spoilt nothing is looked at, whole frames neither.
func TestReadPartOfOneOtherByte(t *testing.T) {
	es := row(4, 5, 6, 7)
	at := ends(es)
	b := slowPart(3, es...)
	for n := range es {
		for k := at[n]; k < at[n+1]; k++ {
			for c := range 256 {
				if b[k] == byte(c) {
					continue
				}
				other := changed(b, k, byte(c))
				wantPart(t, other, 3, es[:n], at[n])
				if c == 0 {
					wantPart(t, append(other, slowFrame([]byte("no entry"))...), 3, es[:n], at[n])
				}
			}
		}
	}
}

// What is no frame is what an append left that was cut off, or the disk spoilt.
func TestReadPartWithMoreBehind(t *testing.T) {
	es := row(4, 5)
	whole := slowPart(3, es...)
	next := slowFrame(cmds.Bytes(api.Entry{Index: 6, Term: 9}))
	for _, more := range [][]byte{nil, {0}, {0xe5}, make([]byte, 8), bytes.Repeat([]byte{0xff}, 30), next[:8], next[:len(next)-1], changed(next, len(next)-1, 0), changed(next, 4, next[4]+1), slowFrame(make([]byte, 16385)), append([]byte{0}, next...)} {
		wantPart(t, slices.Concat(whole, more), 3, es, len(whole))
		wantPart(t, slices.Concat(slowPart(3), more), 3, nil, headLen)
	}
	for _, more := range [][]byte{make([]byte, 4), slowFrame(nil), slowPart(3), slowPart(5), whole, slowFull(api.State{Index: 5})} {
		b := slices.Concat(whole, more)
		if len(more) == 4 {
			wantPart(t, b, 3, es, len(whole))
		} else {
			wantNoPart(t, "a frame without an entry", b, 3)
		}
	}
}

func TestReadPartOfManyEntries(t *testing.T) {
	var es []api.Entry
	for n := range 5000 {
		es = append(es, api.Entry{Index: 101 + n, Term: n / 7, Cmd: api.Cmd{Op: api.Put, Client: n % 4, Seq: n, Key: "k", Value: fmt.Sprint(n)}})
	}
	b := slowPart(100, es...)
	wantPart(t, b, 100, es, len(b))
	wantPart(t, b[:len(b)-1], 100, es[:4999], ends(es)[4999])
	es[4999].Index++
	wantNoPart(t, "the last index", slowPart(100, es...), 100)
}

func TestReadPartKeepsNothing(t *testing.T) {
	es := row(4, 5, 6, 7)
	b := slowPart(3, es...)
	got, _, _ := ReadPart(b, 3)
	clear(b)
	if !slices.Equal(got, es) {
		t.Fatalf("%#v", got)
	}
	b = slowPart(3, es...)
	again, _, _ := ReadPart(b, 3)
	clear(again)
	if !slices.Equal(got, es) || !bytes.Equal(b, slowPart(3, es...)) {
		t.Fatalf("%#v", got)
	}
}

// The room behind the bytes is the caller's too.
func TestReadersWithRoomBehindTheBytes(t *testing.T) {
	es := row(4, 5, 6)
	b := append(slowPart(3, es...), slowFrame(cmds.Bytes(api.Entry{Index: 7, Term: 9}))...)
	before := bytes.Clone(b)
	for n, end := range ends(es) {
		wantPart(t, b[:end], 3, es[:n], end)
		wantPart(t, b[:end+5], 3, es[:n], end)
	}
	wantBytes(t, "the bytes behind", b, before)
	wantFull(t, append(slowFull(states[4]), 1)[:len(slowFull(states[4]))], states[4])
	wantDeltaFile(t, append(slowDelta(deltas[5]), 1)[:len(slowDelta(deltas[5]))], deltas[5])
}
