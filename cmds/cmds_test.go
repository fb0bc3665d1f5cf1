package cmds

import (
	"bytes"
	"encoding/binary"
	"fmt"
	"math"
	"slices"
	"strings"
	"testing"

	"tephra/api"
)

// million is the greatest Seq, Index and Term, as the document writes it.
const million = 1 << 20

// number is a value of a field, and whether the field may have it.
type number struct {
	n  int
	ok bool
}

type text struct {
	s  string
	ok bool
}

// The values of each field: ordinary ones, those at its edges, and wrong ones.
var (
	ops = []number{{0, true}, {1, true}, {2, true}, {3, true}, {4, false}, {5, false}, {-1, false},
		{255, false}, {256, false}, {257, false}, {-255, false}, {math.MaxInt, false}, {math.MinInt, false}}
	clients = []number{{0, true}, {1, true}, {3, true}, {4, false}, {5, false}, {-1, false}, {256, false}, {math.MaxInt, false}, {math.MinInt, false}}
	seqs    = []number{{0, true}, {1, true}, {7, true}, {million - 1, true}, {million, true}, {million + 1, false}, {-1, false},
		{1 << 32, false}, {1<<32 + 1, false}, {math.MaxInt, false}, {math.MinInt, false}}
	indexes = []number{{0, false}, {1, true}, {2, true}, {258, true}, {million - 1, true}, {million, true}, {million + 1, false}, {-1, false},
		{1<<32 + 1, false}, {math.MaxInt, false}, {math.MinInt, false}}
	terms = seqs
	keys  = []text{{"", false}, {"k", true}, {"\x00", true}, {"12345678", true}, {"éèçà", true}, {"123456789", false}, {"éèçàx", false},
		{"\xff\xfe\xfd\xfc\xfb\xfa\xf9\xf8", true}, {strings.Repeat("k", 300), false}}
	values = []text{{"", true}, {"v", true}, {"\x00\xff", true}, {"1234567890123456", true}, {"éèçàéèçà", true},
		{"12345678901234567", false}, {"éèçàéèçàx", false}, {strings.Repeat("v", 300), false}}
)

// some are the entries that may be, from which the tests of bytes go out.
var some = []api.Entry{
	{Index: 1},
	{Index: 2, Term: 1, Cmd: api.Cmd{Op: api.Del, Client: 1, Seq: 3, Key: "k"}},
	{Index: 258, Term: 257, Cmd: api.Cmd{Op: api.Put, Client: 2, Seq: 65537, Key: "key", Value: "value"}},
	{Index: million, Term: million, Cmd: api.Cmd{Op: api.Swap, Client: 3, Seq: million, Key: "12345678", Value: "1234567890123456", Old: "6543210987654321"}},
	{Index: million, Term: 0, Cmd: api.Cmd{Op: api.Put, Key: "\x00", Value: "", Old: "\xff"}},
	{Index: 1, Term: million, Cmd: api.Cmd{Op: api.Del, Client: 3, Seq: 0, Key: "\xff\xc0", Value: "left", Old: ""}},
}

// put is the command of which the tests of one field go out.
var put = api.Cmd{Op: api.Put, Client: 1, Seq: 2, Key: "k", Value: "v", Old: "o"}

// slowBytes is an entry's encoding from the promise's words, by the library.
func slowBytes(e api.Entry) []byte {
	b := appendNum(nil, e.Index)
	b = appendNum(b, e.Term)
	b = append(b, byte(e.Cmd.Op))
	b = appendNum(b, e.Cmd.Client)
	b = appendNum(b, e.Cmd.Seq)
	for _, s := range []string{e.Cmd.Key, e.Cmd.Value, e.Cmd.Old} {
		b = append(appendNum(b, len(s)), s...)
	}
	return b
}

func appendNum(b []byte, n int) []byte {
	return binary.BigEndian.AppendUint64(b, uint64(n))
}

func wantMay(t *testing.T, c api.Cmd, want bool) {
	t.Helper()
	if got := May(c); got != want {
		t.Errorf("May(%#v): %v", c, got)
	}
}

func wantRight(t *testing.T, e api.Entry, want bool) {
	t.Helper()
	if got := Right(e); got != want {
		t.Errorf("Right(%#v): %v", e, got)
	}
}

func wantRow(t *testing.T, es []api.Entry, from int, want bool) {
	t.Helper()
	if got := Row(es, from); got != want {
		t.Errorf("Row(%#v, %d): %v", es, from, got)
	}
}

func wantRead(t *testing.T, b []byte, want api.Entry) {
	t.Helper()
	if got, ok := Read(b); got != want || !ok {
		t.Errorf("Read(%x): %#v, %v, not %#v", b, got, ok, want)
	}
}

func wantNone(t *testing.T, what string, b []byte) {
	t.Helper()
	if got, ok := Read(b); got != (api.Entry{}) || ok {
		t.Errorf("%s: Read(%x): %#v, %v", what, b, got, ok)
	}
}

// P6.1

func TestMayOfEachOp(t *testing.T) {
	for _, op := range ops {
		c := put
		c.Op = api.Op(op.n)
		wantMay(t, c, op.ok && op.n != 0)
		wantMay(t, api.Cmd{Op: api.Op(op.n)}, op.n == 0)
	}
}

func TestMayOfEachField(t *testing.T) {
	for _, op := range []api.Op{api.Put, api.Del, api.Swap} {
		ordinary := put
		ordinary.Op = op
		for _, v := range clients {
			c := ordinary
			c.Client = v.n
			wantMay(t, c, v.ok)
		}
		for _, v := range seqs {
			c := ordinary
			c.Seq = v.n
			wantMay(t, c, v.ok)
		}
		for _, v := range keys {
			c := ordinary
			c.Key = v.s
			wantMay(t, c, v.ok)
		}
		for _, v := range values {
			c := ordinary
			c.Value = v.s
			wantMay(t, c, v.ok)
			c = ordinary
			c.Old = v.s
			wantMay(t, c, v.ok)
		}
	}
}

func TestMayOfKeysAndValuesOfEachLength(t *testing.T) {
	for n := range 40 {
		c := put
		c.Key = strings.Repeat("k", n)
		wantMay(t, c, n >= 1 && n <= 8)
		c = put
		c.Value = strings.Repeat("v", n)
		wantMay(t, c, n <= 16)
		c = put
		c.Old = strings.Repeat("o", n)
		wantMay(t, c, n <= 16)
	}
}

func TestMayOfANop(t *testing.T) {
	wantMay(t, api.Cmd{}, true)
	wantMay(t, api.Cmd{Op: api.Nop}, true)
	for _, c := range []api.Cmd{
		{Client: 1}, {Client: 3}, {Client: -1}, {Client: 4},
		{Seq: 1}, {Seq: million}, {Seq: -1}, {Seq: million + 1},
		{Key: "k"}, {Key: "\x00"}, {Key: "12345678"}, {Key: "123456789"},
		{Value: "v"}, {Value: "\x00"}, {Value: "12345678901234567"},
		{Old: "o"}, {Old: "\x00"}, {Old: "12345678901234567"},
		{Client: 1, Seq: 2, Key: "k", Value: "v", Old: "o"},
	} {
		wantMay(t, c, false)
	}
}

// TestMayOfAllTogether is every choice of the fields' values, so that no field makes up for another one.
func TestMayOfAllTogether(t *testing.T) {
	for _, op := range ops {
		for _, client := range clients {
			for _, seq := range seqs {
				for _, key := range keys {
					for _, value := range values {
						for _, old := range values {
							c := api.Cmd{Op: api.Op(op.n), Client: client.n, Seq: seq.n, Key: key.s, Value: value.s, Old: old.s}
							want := op.ok && client.ok && seq.ok && key.ok && value.ok && old.ok
							if op.n == 0 {
								want = client.n == 0 && seq.n == 0 && key.s+value.s+old.s == ""
							}
							if May(c) != want {
								t.Fatalf("May(%#v): %v", c, !want)
							}
						}
					}
				}
			}
		}
	}
}

func TestLimitsAreThoseOfTheDocument(t *testing.T) {
	if api.MaxKey != 8 || api.MaxValue != 16 || api.MaxEntry != million || api.MaxClient != 4 || api.Ops != 4 {
		t.Error("the promises name other numbers")
	}
}

// P6.2

func TestRight(t *testing.T) {
	for _, e := range some {
		wantRight(t, e, true)
	}
	wantRight(t, api.Entry{}, false)
	for _, index := range indexes {
		for _, term := range terms {
			wantRight(t, api.Entry{Index: index.n, Term: term.n}, index.ok && term.ok)
			wantRight(t, api.Entry{Index: index.n, Term: term.n, Cmd: put}, index.ok && term.ok)
			wantRight(t, api.Entry{Index: index.n, Term: term.n, Cmd: api.Cmd{Op: api.Ops, Key: "k"}}, false)
			wantRight(t, api.Entry{Index: index.n, Term: term.n, Cmd: api.Cmd{Op: api.Put}}, false)
			wantRight(t, api.Entry{Index: index.n, Term: term.n, Cmd: api.Cmd{Seq: 1}}, false)
		}
	}
}

// rowOf are entries from an index on, of these terms.
func rowOf(from int, terms ...int) []api.Entry {
	var es []api.Entry
	for n, term := range terms {
		es = append(es, api.Entry{Index: from + n, Term: term, Cmd: put})
	}
	return es
}

func TestRowWithoutEntries(t *testing.T) {
	for _, from := range []int{0, 1, 7, -1, million, million + 1, math.MaxInt, math.MinInt} {
		wantRow(t, nil, from, true)
		wantRow(t, []api.Entry{}, from, true)
	}
}

func TestRowOfOneEntry(t *testing.T) {
	for _, index := range indexes {
		for _, term := range terms {
			wantRow(t, rowOf(index.n, term.n), index.n, index.ok && term.ok)
			wantRow(t, rowOf(index.n, term.n), index.n+1, false)
			wantRow(t, rowOf(index.n, term.n), index.n-1, false)
		}
	}
}

func TestRowOfTerms(t *testing.T) {
	for _, c := range []struct {
		terms []int
		want  bool
	}{
		{[]int{1, 1}, true},
		{[]int{0, 0, 0}, true},
		{[]int{1, 2}, true},
		{[]int{0, 1, 1, 5, million}, true},
		{[]int{million, million}, true},
		{[]int{2, 1}, false},
		{[]int{1, 0}, false},
		{[]int{1, 1, 0}, false},
		{[]int{1, 2, 1}, false},
		{[]int{1, 3, 2, 4}, false},
		{[]int{0, 2, 1, 1}, false},
		{[]int{5, 6, 7, 6}, false},
		{[]int{1, -1}, false},
		{[]int{-2, -1, 0}, false},
		{[]int{1, million + 1}, false},
	} {
		for _, from := range []int{1, 2, 900, million - len(c.terms) + 1} {
			wantRow(t, rowOf(from, c.terms...), from, c.want)
		}
	}
}

func TestRowOfIndexes(t *testing.T) {
	for _, c := range []struct {
		indexes []int
		from    int
		want    bool
	}{
		{[]int{1, 2, 3}, 1, true},
		{[]int{7, 8, 9}, 7, true},
		{[]int{million - 1, million}, million - 1, true},
		{[]int{1, 2, 3}, 0, false},
		{[]int{1, 2, 3}, 2, false},
		{[]int{1, 3}, 1, false},
		{[]int{1, 2, 4}, 1, false},
		{[]int{1, 1}, 1, false},
		{[]int{1, 2, 2}, 1, false},
		{[]int{1, 2, 2, 3}, 1, false},
		{[]int{1, 2, 2, 4}, 1, false},
		{[]int{2, 1}, 2, false},
		{[]int{2, 1}, 1, false},
		{[]int{3, 2, 1}, 3, false},
		{[]int{5, 5, 5}, 5, false},
		{[]int{0, 1}, 0, false},
		{[]int{-1, 0, 1}, -1, false},
		{[]int{million, million + 1}, million, false},
		{[]int{math.MaxInt, math.MinInt}, math.MaxInt, false},
	} {
		var es []api.Entry
		for _, index := range c.indexes {
			es = append(es, api.Entry{Index: index, Term: 1})
		}
		wantRow(t, es, c.from, c.want)
	}
}

func TestRowOfAnEntryThatIsNotValid(t *testing.T) {
	wrong := []func(e *api.Entry){
		func(e *api.Entry) { e.Cmd.Op = api.Ops },
		func(e *api.Entry) { e.Cmd.Op = api.Nop },
		func(e *api.Entry) { e.Cmd.Key = "" },
		func(e *api.Entry) { e.Cmd.Client = 4 },
		func(e *api.Entry) { e.Cmd.Old = "12345678901234567" },
	}
	for at := range 4 {
		for _, turn := range wrong {
			es := rowOf(3, 1, 1, 2, 2)
			wantRow(t, es, 3, true)
			turn(&es[at])
			wantRow(t, es, 3, false)
		}
	}
}

func TestRowChangesNothing(t *testing.T) {
	es := rowOf(3, 1, 2, 1)
	before := slices.Clone(es)
	Row(es, 3)
	Row(es[:2], 3)
	if !slices.Equal(es, before) {
		t.Errorf("%#v", es)
	}
}

func TestRowOfMany(t *testing.T) {
	es := make([]api.Entry, million, million+1)
	for n := range es {
		es[n] = api.Entry{Index: n + 1, Term: n}
	}
	if !Row(es, 1) {
		t.Error("all indexes there are")
	}
	if Row(append(es, api.Entry{Index: million + 1, Term: million}), 1) {
		t.Error("one more")
	}
	es[million-1].Term = 0
	if Row(es, 1) {
		t.Error("the last term falls")
	}
}

// P6.3

func TestBytesWrittenOut(t *testing.T) {
	const zeros = "\x00\x00\x00\x00\x00\x00\x00"
	for _, c := range []struct {
		e    api.Entry
		want string
	}{
		{api.Entry{}, strings.Repeat("\x00", 57)},
		{api.Entry{Index: 1, Term: 2, Cmd: api.Cmd{Op: api.Swap, Client: 2, Seq: 5, Key: "key", Value: "", Old: "o"}},
			zeros + "\x01" + zeros + "\x02" + "\x03" + zeros + "\x02" + zeros + "\x05" + zeros + "\x03key" + zeros + "\x00" + zeros + "\x01o"},
		{api.Entry{Index: million, Term: 258, Cmd: api.Cmd{Op: api.Put, Client: 1, Seq: 65536, Key: "a", Value: "vv"}},
			"\x00\x00\x00\x00\x00\x10\x00\x00" + "\x00\x00\x00\x00\x00\x00\x01\x02" + "\x01" + zeros + "\x01" + "\x00\x00\x00\x00\x00\x01\x00\x00" + zeros + "\x01a" + zeros + "\x02vv" + zeros + "\x00"},
		{api.Entry{Index: -1, Term: -2, Cmd: api.Cmd{Op: 4, Client: -3, Seq: -256}},
			"\xff\xff\xff\xff\xff\xff\xff\xff" + "\xff\xff\xff\xff\xff\xff\xff\xfe" + "\x04" + "\xff\xff\xff\xff\xff\xff\xff\xfd" + "\xff\xff\xff\xff\xff\xff\xff\x00" + strings.Repeat("\x00", 24)},
	} {
		if b := Bytes(c.e); string(b) != c.want {
			t.Errorf("%#v: %x, not %x", c.e, b, c.want)
		}
	}
}

// eachEntry is every choice of most fields' values, right or wrong; Old and Seq go along with Key and Value, so that it stays quick.
func eachEntry(tell func(e api.Entry)) {
	for _, index := range indexes {
		for _, term := range terms {
			for _, op := range ops {
				for _, client := range clients {
					for n, key := range keys {
						for m, value := range values {
							old, seq := values[(n+m)%len(values)], seqs[(n+2*m)%len(seqs)]
							tell(api.Entry{Index: index.n, Term: term.n, Cmd: api.Cmd{Op: api.Op(op.n), Client: client.n, Seq: seq.n, Key: key.s, Value: value.s, Old: old.s}})
						}
					}
				}
			}
		}
	}
}

// An Op that has no byte of its own shares that of another one: what is read is then the valid one, or none.
func TestReadOfEachEntry(t *testing.T) {
	right, wrong := 0, 0
	eachEntry(func(e api.Entry) {
		b := Bytes(e)
		if !bytes.Equal(b, slowBytes(e)) {
			t.Fatalf("%#v: %x", e, b)
		}
		e.Cmd.Op = api.Op(byte(e.Cmd.Op))
		got, ok := Read(b)
		if !Right(e) {
			e = api.Entry{}
			wrong++
		} else {
			right++
		}
		if got != e || ok != (e != api.Entry{}) {
			t.Fatalf("Read(%x): %#v, %v, not %#v", b, got, ok, e)
		}
	})
	if right < 1000 || wrong < 1000 {
		t.Errorf("%d and %d entries are too few", right, wrong)
	}
}

func TestReadOfSome(t *testing.T) {
	for _, e := range some {
		wantRead(t, Bytes(e), e)
		wantRead(t, slowBytes(e), e)
	}
	for _, op := range ops {
		e := api.Entry{Index: 1, Cmd: put}
		e.Cmd.Op = api.Op(op.n)
		if byte(op.n) >= 1 && byte(op.n) <= 3 {
			want := e
			want.Cmd.Op = api.Op(byte(op.n))
			wantRead(t, Bytes(e), want)
		} else {
			wantNone(t, fmt.Sprint("the Op ", op.n), Bytes(e))
		}
	}
}

func TestReadOfNoBytes(t *testing.T) {
	wantNone(t, "nil", nil)
	wantNone(t, "none", []byte{})
	for n := range 200 {
		wantNone(t, "zeros", make([]byte, n))
		wantNone(t, "ones", bytes.Repeat([]byte{0xff}, n))
	}
}

func TestReadOfBytesCutOff(t *testing.T) {
	for _, e := range some {
		b := Bytes(e)
		for n := range b {
			wantNone(t, "cut off", b[:n])
			wantNone(t, "without those ahead", b[n+1:])
		}
	}
}

func TestReadOfMoreBytes(t *testing.T) {
	for _, e := range some {
		b := Bytes(e)
		for _, more := range [][]byte{{0}, {1}, {0xe5}, make([]byte, 8), b} {
			wantNone(t, "more behind them", slices.Concat(b, more))
		}
		wantNone(t, "one ahead of them", slices.Concat([]byte{0}, b))
	}
}

// One byte that is another gives another entry, or none: never this one, and never one whose bytes are others.
func TestReadOfOneOtherByte(t *testing.T) {
	for _, e := range some {
		b := Bytes(e)
		for at := range b {
			for c := range 256 {
				other := bytes.Clone(b)
				other[at] = byte(c)
				if bytes.Equal(other, b) {
					continue
				}
				got, ok := Read(other)
				if ok && (got == e || !Right(got) || !bytes.Equal(slowBytes(got), other)) || !ok && got != (api.Entry{}) {
					t.Fatalf("%d is %d: %#v, %v", at, c, got, ok)
				}
			}
		}
	}
}

// at is where each field of an entry whose Key is "k" and whose Value is "v" begins.
const (
	atIndex, atTerm, atOp, atClient, atSeq = 0, 8, 16, 17, 25
	atKey, atValue, atOld                  = 33, 42, 51
)

func TestReadOfAWrongByteInEachField(t *testing.T) {
	b := Bytes(api.Entry{Index: 5, Term: 1, Cmd: put})
	for _, at := range []int{atIndex, atTerm, atClient, atSeq, atKey, atValue, atOld} {
		for _, c := range []byte{1, 0x7f, 0x80, 0xff} {
			other := bytes.Clone(b)
			other[at] = c
			wantNone(t, fmt.Sprint("the byte at ", at), other)
		}
	}
	for c := range 256 {
		other := bytes.Clone(b)
		other[atOp] = byte(c)
		if got, ok := Read(other); ok != (c >= 1 && c <= 3) || ok && got.Cmd.Op != api.Op(c) {
			t.Errorf("the Op %d: %#v, %v", c, got, ok)
		}
	}
	other := bytes.Clone(b)
	other[atKey+8] = 'j'
	want := api.Entry{Index: 5, Term: 1, Cmd: put}
	want.Cmd.Key = "j"
	wantRead(t, other, want)
}

func TestReadOfWrongLengths(t *testing.T) {
	b := Bytes(api.Entry{Index: 5, Term: 1, Cmd: put})
	for _, at := range []int{atKey, atValue, atOld} {
		for _, n := range []int{-1, 0, 2, 8, 9, 16, 17, len(b), math.MaxInt, math.MinInt} {
			other := slices.Concat(b[:at], appendNum(nil, n), b[at+8:])
			wantNone(t, fmt.Sprint("a length of ", n, " at ", at), other)
		}
	}
}

func TestBytesAreNew(t *testing.T) {
	for _, e := range some {
		first := Bytes(e)
		clear(first)
		if second := Bytes(e); !bytes.Equal(second, slowBytes(e)) {
			t.Errorf("%x", second)
		}
	}
}

func TestReadKeepsNoBytes(t *testing.T) {
	for _, e := range some {
		b := Bytes(e)
		got, ok := Read(b)
		if !ok || !bytes.Equal(b, slowBytes(e)) {
			t.Errorf("its argument is changed: %x", b)
		}
		clear(b)
		if got != e {
			t.Errorf("%#v, not %#v", got, e)
		}
	}
}

// FuzzRead holds Read against P6.3: what it reads is valid and has these bytes.
func FuzzRead(f *testing.F) {
	for _, e := range some {
		f.Add(Bytes(e))
	}
	f.Add([]byte(nil))
	f.Fuzz(func(t *testing.T, b []byte) {
		e, ok := Read(b)
		if !ok && e != (api.Entry{}) || ok && (!Right(e) || !bytes.Equal(Bytes(e), b)) {
			t.Fatalf("%#v, %v", e, ok)
		}
	})
}

// FuzzBytes holds Bytes against P6.3, for entries of all kinds, and that each valid one is read back.
func FuzzBytes(f *testing.F) {
	for _, e := range some {
		f.Add(e.Index, e.Term, int(e.Cmd.Op), e.Cmd.Client, e.Cmd.Seq, e.Cmd.Key, e.Cmd.Value, e.Cmd.Old)
	}
	f.Fuzz(func(t *testing.T, index, term, op, client, seq int, key, value, old string) {
		e := api.Entry{Index: index, Term: term, Cmd: api.Cmd{Op: api.Op(op), Client: client, Seq: seq, Key: key, Value: value, Old: old}}
		b := Bytes(e)
		if !bytes.Equal(b, slowBytes(e)) {
			t.Fatalf("%#v: %x", e, b)
		}
		if got, ok := Read(b); Right(e) && (got != e || !ok) {
			t.Fatalf("%#v: %#v, %v", e, got, ok)
		}
	})
}
