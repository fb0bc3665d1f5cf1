package image

import (
	"encoding/binary"
	"hash/crc32"
	"math/rand/v2"
	"slices"
	"testing"

	"tephra/api"
	"tephra/cmds"
	"tephra/delta"
	"tephra/state"
)

// What the promises say, in their words and otherwise than the layer does it: frames by the library, and files that are taken apart whole.

func appendNum(b []byte, n int) []byte {
	return binary.BigEndian.AppendUint64(b, uint64(n))
}

// slowFrame sets no bound, so that it makes wrong ones too.
func slowFrame(contents []byte) []byte {
	b := binary.BigEndian.AppendUint32(nil, uint32(len(contents)))
	b = binary.BigEndian.AppendUint32(b, crc32.ChecksumIEEE(contents))
	return append(append(b, contents...), 0xe5)
}

// slowFrames are the frames that bytes begin with, and where each one ends.
func slowFrames(b []byte) ([][]byte, []int) {
	var rows [][]byte
	var ends []int
	for at := 0; len(b)-at >= 9; {
		n := int(binary.BigEndian.Uint32(b[at:]))
		if n > 16384 || len(b)-at < n+9 {
			break
		}
		row := b[at+8 : at+8+n]
		if b[at+8+n] != 0xe5 || binary.BigEndian.Uint32(b[at+4:]) != crc32.ChecksumIEEE(row) {
			break
		}
		at += n + 9
		rows, ends = append(rows, row), append(ends, at)
	}
	return rows, ends
}

func slowHead(kind byte, from, to int) []byte {
	return slowFrame(appendNum(appendNum([]byte{kind}, from), to))
}

func slowFull(s api.State) []byte {
	return append(slowHead(0, s.Index, s.Index), slowFrame(state.Bytes(s))...)
}

func slowDelta(d delta.Delta) []byte {
	return append(slowHead(1, d.From, d.To), slowFrame(delta.Bytes(d))...)
}

func slowPart(from int, es ...api.Entry) []byte {
	b := slowHead(2, from, from)
	for _, e := range es {
		b = append(b, slowFrame(cmds.Bytes(e))...)
	}
	return b
}

// headSays tells whether these are a head's contents.
func headSays(row []byte, kind byte, from, to int) bool {
	return len(row) == 17 && row[0] == kind && int(binary.BigEndian.Uint64(row[1:])) == from && int(binary.BigEndian.Uint64(row[9:])) == to
}

// slowPair are the two frames of which a file consists; false, if it does not.
func slowPair(b []byte) ([]byte, []byte, bool) {
	rows, ends := slowFrames(b)
	if len(rows) != 2 || ends[1] != len(b) {
		return nil, nil, false
	}
	return rows[0], rows[1], true
}

func slowReadFull(b []byte) (api.State, api.Errno) {
	first, second, ok := slowPair(b)
	if !ok {
		return api.State{}, api.ErrCorrupt
	}
	s, ok := state.Read(second)
	if !ok || !headSays(first, 0, s.Index, s.Index) {
		return api.State{}, api.ErrCorrupt
	}
	return s, 0
}

func slowReadDelta(b []byte) (delta.Delta, api.Errno) {
	first, second, ok := slowPair(b)
	if !ok {
		return delta.Delta{}, api.ErrCorrupt
	}
	d, ok := delta.Read(second)
	if !ok || !headSays(first, 1, d.From, d.To) {
		return delta.Delta{}, api.ErrCorrupt
	}
	return d, 0
}

func slowReadPart(b []byte, from int) ([]api.Entry, int, api.Errno) {
	rows, ends := slowFrames(b)
	if len(rows) == 0 || !headSays(rows[0], 2, from, from) {
		return nil, 0, api.ErrCorrupt
	}
	var es []api.Entry
	for n, row := range rows[1:] {
		e, ok := cmds.Read(row)
		if !ok || e.Index != from+1+n || n > 0 && e.Term < es[n-1].Term {
			return nil, 0, api.ErrCorrupt
		}
		es = append(es, e)
	}
	return es, ends[len(ends)-1], 0
}

// Each of these holds a function against the slow one, and fails if they answer otherwise, or if the argument is changed.

func holdFull(t *testing.T, b []byte) (api.State, api.Errno) {
	t.Helper()
	before := slices.Clone(b)
	got, e := ReadFull(b)
	want, f := slowReadFull(before)
	wantState(t, got, want)
	if e != f || !slices.Equal(b, before) {
		t.Fatalf("%x: error %d, not %d; %x", before, e, f, b)
	}
	return got, e
}

func holdDelta(t *testing.T, b []byte) (delta.Delta, api.Errno) {
	t.Helper()
	before := slices.Clone(b)
	got, e := ReadDelta(b)
	want, f := slowReadDelta(before)
	wantDelta(t, got, want)
	if e != f || !slices.Equal(b, before) {
		t.Fatalf("%x: error %d, not %d; %x", before, e, f, b)
	}
	return got, e
}

func holdPart(t *testing.T, b []byte, from int) ([]api.Entry, int, api.Errno) {
	t.Helper()
	before := slices.Clone(b)
	got, end, e := ReadPart(b, from)
	want, wantEnd, f := slowReadPart(before, from)
	if !slices.Equal(got, want) || end != wantEnd || e != f {
		t.Fatalf("%x from %d: %#v, %d, error %d, not %#v, %d, error %d", before, from, got, end, e, want, wantEnd, f)
	}
	if !slices.Equal(b, before) {
		t.Fatalf("%x was changed: %x", before, b)
	}
	return got, end, e
}

// tally counts the answers of each reader: 0 errors, and ErrCorrupt.
type tally [3][2]int

func (n *tally) add(which int, e api.Errno) {
	if e == 0 {
		n[which][0]++
	} else {
		n[which][1]++
	}
}

// holdAll reads bytes as each kind of file, a part from some indices.
func holdAll(t *testing.T, b []byte, n *tally, froms ...int) {
	t.Helper()
	_, e := holdFull(t, b)
	n.add(0, e)
	_, e = holdDelta(t, b)
	n.add(1, e)
	for _, from := range froms {
		_, _, e = holdPart(t, b, from)
		n.add(2, e)
	}
}

// maker makes bytes that are mostly a file, by numbers that it is given.
type maker struct {
	next func(n int) int // from 0 to n - 1
}

// index is mostly the one that is asked for.
func (m maker) index(n int) int {
	if m.next(8) == 0 {
		return n + m.next(5) - 2
	}
	return n
}

// entries are mostly those behind an index, of terms that mostly do not fall.
func (m maker) entries(from int) []api.Entry {
	var es []api.Entry
	term := m.next(3)
	for n := range m.next(5) {
		term += m.next(3)
		e := api.Entry{Index: m.index(from + 1 + n), Term: term}
		if m.next(20) == 0 {
			e.Term = m.next(3)
		}
		if m.next(3) > 0 {
			e.Cmd = api.Cmd{Op: api.Op(1 + m.next(3)), Client: m.next(4), Seq: m.next(9), Key: "k", Value: "v"}
		}
		es = append(es, e)
	}
	return es
}

// file is a head of any kind and mostly what belongs behind it.
func (m maker) file() []byte {
	from := m.next(4)
	kind := m.next(3)
	to := from
	if kind == 1 {
		to += m.next(3)
	}
	b := slowHead(byte(m.index(kind)), m.index(from), m.index(to))
	if m.next(10) == 0 {
		kind = m.next(3)
	}
	switch kind {
	case 0:
		b = append(b, slowFrame(state.Bytes(api.State{Index: from, Term: m.next(3), Pairs: pairs(m.next(3))}))...)
	case 1:
		b = append(b, slowFrame(delta.Bytes(delta.Delta{From: from, To: to, Term: m.next(3), Pairs: pairs(m.next(3))}))...)
	default:
		for _, e := range m.entries(from) {
			b = append(b, slowFrame(cmds.Bytes(e))...)
		}
	}
	return b
}

// spoilt is a file of which, at times, a byte is another one, the end is gone, or something is inserted.
func (m maker) spoilt() []byte {
	b := m.file()
	switch m.next(8) {
	case 0:
		b[m.next(len(b))] ^= byte(1 + m.next(255))
	case 1:
		b = b[:m.next(len(b))]
	case 2:
		b = append(b, m.file()...)
	case 3:
		b = slices.Insert(b, m.next(len(b)), byte(m.next(256)))
	case 4:
		b = append(b, slowFrame(make([]byte, m.next(4)))...)
	}
	return b
}

func TestAsTheSlowFunctions(t *testing.T) {
	m := maker{rand.New(rand.NewPCG(9, 1)).IntN}
	var n tally
	for range 8000 {
		holdAll(t, m.spoilt(), &n, -1, 0, 1, 2, 3, 4)
	}
	for which, answers := range n {
		for what, count := range answers {
			if count < 400 {
				t.Errorf("reader %d: only %d answers %d", which, count, what)
			}
		}
	}
}

// FuzzSpoilt holds the readers against the slow ones, for files that are spoilt in any way.
func FuzzSpoilt(f *testing.F) {
	f.Add([]byte{0})
	f.Add([]byte("a head, and what is behind it"))
	f.Fuzz(func(t *testing.T, numbers []byte) {
		at := 0
		next := func(n int) int {
			if len(numbers) == 0 {
				return 0
			}
			at++
			return (int(numbers[at%len(numbers)]) + at/len(numbers)) % n
		}
		holdAll(t, maker{next}.spoilt(), new(tally), -1, 0, 1, 2, 3, 4)
	})
}

// FuzzAny holds the readers against the slow ones, for any bytes, and for any as what stands behind a head.
func FuzzAny(f *testing.F) {
	f.Add([]byte(nil), 0, 0)
	for _, s := range states {
		f.Add(slowFull(s), s.Index, s.Index)
		f.Add(state.Bytes(s), s.Index, s.Index)
	}
	for _, d := range deltas {
		f.Add(slowDelta(d), d.From, d.To)
		f.Add(delta.Bytes(d), d.From, d.To)
	}
	f.Add(slowPart(3, row(4, 5)...), 3, 3)
	f.Add(cmds.Bytes(api.Entry{Index: 4, Term: 1}), 3, 3)
	f.Fuzz(func(t *testing.T, b []byte, from, to int) {
		holdAll(t, b, new(tally), from, to)
		for kind := range byte(4) {
			h := slowHead(kind, from, to)
			holdAll(t, slices.Concat(h, b), new(tally), from, to)
			holdAll(t, slices.Concat(h, slowFrame(b)), new(tally), from, to)
		}
	})
}
