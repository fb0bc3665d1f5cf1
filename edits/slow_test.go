package edits

import (
	"encoding/binary"
	"hash/crc32"
	"math/rand/v2"
	"slices"
	"testing"

	"tephra/api"
)

// What the promises say, in their words and otherwise than the layer does it: lists that are gone through from one end to the other, and bytes by the library.

func slowMay(r api.Ref) bool {
	if len(r.Name) == 0 || len(r.Name) > 16 {
		return false
	}
	if r.From < 0 || r.From > r.To || r.To > 1048576 {
		return false
	}
	switch r.Kind {
	case 0:
		return r.From == r.To
	case 1, 2:
		return true
	}
	return false
}

func slowFind(s Set, name string) int {
	found := -1
	for at := len(s.Refs) - 1; at >= 0; at-- {
		if s.Refs[at].Name == name {
			found = at
		}
	}
	return found
}

// slowSort takes the first of the least names out again and again.
func slowSort(refs []api.Ref) []api.Ref {
	var all []api.Ref
	refs = slices.Clone(refs)
	for len(refs) > 0 {
		least := 0
		for at, r := range refs {
			if r.Name < refs[least].Name {
				least = at
			}
		}
		all = append(all, refs[least])
		refs = slices.Delete(refs, least, least+1)
	}
	return all
}

func slowDo(s Set, e Edit) (Set, api.Errno) {
	u := Set{slices.Clone(s.Refs), e.Floor}
	for _, name := range e.Drop {
		at := slowFind(u, name)
		if at < 0 {
			return Set{}, api.ErrUnknown
		}
		u.Refs = slices.Delete(u.Refs, at, at+1)
	}
	for _, r := range e.Add {
		if !slowMay(r) {
			return Set{}, api.ErrArgument
		}
		if slowFind(u, r.Name) >= 0 {
			return Set{}, api.ErrExist
		}
		u.Refs = append(u.Refs, r)
	}
	if e.Floor < s.Floor || e.Floor > 1048576 {
		return Set{}, api.ErrOrder
	}
	u.Refs = slowSort(u.Refs)
	return u, 0
}

func appendNum(b []byte, n int) []byte {
	return binary.BigEndian.AppendUint64(b, uint64(n))
}

func appendText(b []byte, s string) []byte {
	return append(appendNum(b, len(s)), s...)
}

func appendRef(b []byte, r api.Ref) []byte {
	b = append(appendText(b, r.Name), byte(r.Kind))
	return appendNum(appendNum(b, r.From), r.To)
}

// slowBytesOf lets the numbers of files and names be any, so that it makes wrong ones too.
func slowBytesOf(e Edit, files, names int) []byte {
	b := appendNum(appendNum(nil, e.Floor), files)
	for _, r := range e.Add {
		b = appendRef(b, r)
	}
	b = appendNum(b, names)
	for _, name := range e.Drop {
		b = appendText(b, name)
	}
	return b
}

func slowBytes(e Edit) []byte {
	return slowBytesOf(e, len(e.Add), len(e.Drop))
}

// cutNum and cutText are what bytes begin with, and what is behind it; false, if it is not there.
func cutNum(b []byte) (int, []byte, bool) {
	if len(b) < 8 {
		return 0, nil, false
	}
	return int(binary.BigEndian.Uint64(b)), b[8:], true
}

func cutText(b []byte) (string, []byte, bool) {
	n, b, ok := cutNum(b)
	if !ok || n < 0 || n > len(b) {
		return "", nil, false
	}
	return string(b[:n]), b[n:], true
}

func cutRef(b []byte) (api.Ref, []byte, bool) {
	name, b, ok := cutText(b)
	if !ok || len(b) < 17 {
		return api.Ref{}, nil, false
	}
	from, rest, _ := cutNum(b[1:])
	to, rest, _ := cutNum(rest)
	return api.Ref{Name: name, Kind: api.Kind(b[0]), From: from, To: to}, rest, true
}

// cutList is a number and so many elements.
func cutList[E any](b []byte, cut func(b []byte) (E, []byte, bool)) ([]E, []byte, bool) {
	n, b, ok := cutNum(b)
	if !ok || n < 0 {
		return nil, nil, false
	}
	var all []E
	for len(all) < n {
		x, rest, ok := cut(b)
		if !ok {
			return nil, nil, false
		}
		all, b = append(all, x), rest
	}
	return all, b, true
}

func slowRead(b []byte) (Edit, bool) {
	floor, b, ok := cutNum(b)
	if !ok {
		return Edit{}, false
	}
	add, b, ok := cutList(b, cutRef)
	if !ok {
		return Edit{}, false
	}
	names, b, ok := cutList(b, cutText)
	if !ok || len(b) > 0 {
		return Edit{}, false
	}
	return Edit{add, names, floor}, true
}

// slowFrame sets no bound, so that it makes wrong ones too.
func slowFrame(contents []byte) []byte {
	b := binary.BigEndian.AppendUint32(nil, uint32(len(contents)))
	b = binary.BigEndian.AppendUint32(b, crc32.ChecksumIEEE(contents))
	return append(append(b, contents...), 0xe5)
}

// slowFrames are the frames that bytes begin with, and where the last one ends.
func slowFrames(b []byte) ([][]byte, int) {
	var rows [][]byte
	at := 0
	for len(b)-at >= 9 {
		n := int(binary.BigEndian.Uint32(b[at:]))
		if n > 16384 || len(b)-at < n+9 {
			break
		}
		row := b[at+8 : at+8+n]
		if b[at+8+n] != 0xe5 || binary.BigEndian.Uint32(b[at+4:]) != crc32.ChecksumIEEE(row) {
			break
		}
		at += n + 9
		rows = append(rows, row)
	}
	return rows, at
}

func slowReplay(b []byte) (Set, int, api.Errno) {
	rows, end := slowFrames(b)
	var s Set
	for _, row := range rows {
		e, ok := slowRead(row)
		if !ok {
			return Set{}, 0, api.ErrCorrupt
		}
		next, wrong := slowDo(s, e)
		if wrong != 0 {
			return Set{}, 0, api.ErrCorrupt
		}
		s = next
	}
	return s, end, 0
}

// Each of these holds a function against the slow one, and fails if they answer otherwise, or if an argument is changed.

func holdDo(t *testing.T, s Set, e Edit) (Set, api.Errno) {
	t.Helper()
	beforeSet, beforeEdit := copySet(s), copyEdit(e)
	got, wrong := Do(s, e)
	want, slow := slowDo(beforeSet, beforeEdit)
	if !sameSet(got, want) || wrong != slow {
		t.Fatalf("%#v of %#v: %#v, error %d, not %#v, error %d", beforeEdit, beforeSet, got, wrong, want, slow)
	}
	if !sameSet(s, beforeSet) || !sameEdit(e, beforeEdit) {
		t.Fatalf("%#v of %#v were changed: %#v, %#v", beforeEdit, beforeSet, e, s)
	}
	return got, wrong
}

func holdRead(t *testing.T, b []byte) (Edit, bool) {
	t.Helper()
	before := slices.Clone(b)
	got, ok := Read(b)
	want, slow := slowRead(before)
	if !sameEdit(got, want) || ok != slow {
		t.Fatalf("%x: %#v, %v, not %#v, %v", before, got, ok, want, slow)
	}
	if !slices.Equal(b, before) {
		t.Fatalf("%x was changed: %x", before, b)
	}
	return got, ok
}

func holdReplay(t *testing.T, b []byte) (Set, int, api.Errno) {
	t.Helper()
	before := slices.Clone(b)
	got, end, wrong := Replay(b)
	want, wantEnd, slow := slowReplay(before)
	if !sameSet(got, want) || end != wantEnd || wrong != slow {
		t.Fatalf("%x: %#v, %d, error %d, not %#v, %d, error %d", before, got, end, wrong, want, wantEnd, slow)
	}
	if !slices.Equal(b, before) {
		t.Fatalf("%x was changed: %x", before, b)
	}
	return got, end, wrong
}

// maker makes edits that are mostly possible, by numbers that it is given.
type maker struct {
	next func(n int) int // from 0 to n - 1
}

// name is one of a few, so that many are there already; at times one that may not be.
func (m maker) name() string {
	names := []string{"a", "b", "c", "d", "e", "ab", "B", "\xff", "1234567890123456"}
	if m.next(40) == 0 {
		names = []string{"", "12345678901234567"}
	}
	return names[m.next(len(names))]
}

// ref is mostly one that may be.
func (m maker) ref() api.Ref {
	r := api.Ref{Name: m.name(), Kind: api.Kind(m.next(3)), From: m.next(5)}
	r.To = r.From
	if r.Kind != api.Full {
		r.To += m.next(5)
	}
	switch m.next(60) {
	case 0:
		r.Kind = api.Kind(m.next(7) - 2)
	case 1:
		r.From -= 3
	case 2:
		r.To += m.next(3) - 1
	case 3:
		r.From, r.To = million, million+m.next(2)
	}
	return r
}

// set is a list that Do might have made, or, at times, one that it might not: by names that fall, or with several files of one.
func (m maker) set() Set {
	s := Set{Floor: m.next(4)}
	for range m.next(8) {
		if r := m.ref(); slowFind(s, r.Name) < 0 || m.next(10) == 0 {
			s.Refs = append(s.Refs, r)
		}
	}
	if m.next(4) > 0 {
		s.Refs = slowSort(s.Refs)
	}
	return s
}

// edit is mostly possible behind a list.
func (m maker) edit(s Set) Edit {
	e := Edit{Floor: s.Floor + m.next(3)}
	switch m.next(60) {
	case 0, 1:
		e.Floor = s.Floor - 1
	case 2:
		e.Floor = million + m.next(2)
	}
	left := slices.Clone(s.Refs)
	for range m.next(4) {
		if m.next(30) == 0 || len(left) == 0 {
			if m.next(4) == 0 {
				e.Drop = append(e.Drop, m.name())
			}
			continue
		}
		at := m.next(len(left))
		e.Drop = append(e.Drop, left[at].Name)
		left = slices.Delete(left, at, at+1)
	}
	for range m.next(4) {
		r := m.ref()
		if m.next(20) > 0 && slowFind(Set{Refs: slices.Concat(left, e.Add)}, r.Name) >= 0 {
			continue
		}
		e.Add = append(e.Add, r)
	}
	return e
}

// spoil has, at times, a byte be another one, takes the end away, or inserts something.
func (m maker) spoil(b []byte) []byte {
	if len(b) == 0 {
		return b
	}
	switch m.next(10) {
	case 0:
		b[m.next(len(b))] ^= byte(1 + m.next(255))
	case 1:
		b = b[:m.next(len(b))]
	case 2:
		b = append(b, byte(m.next(256)))
	case 3:
		b = slices.Insert(b, m.next(len(b)), byte(m.next(256)))
	case 4:
		b = slices.Delete(b, 0, 1+m.next(len(b)))
	}
	return b
}

// journal are frames of edits that mostly follow one another.
func (m maker) journal() []byte {
	var b []byte
	var s Set
	for range m.next(9) {
		e := m.edit(s)
		contents := slowBytes(e)
		if m.next(15) == 0 {
			contents = m.spoil(contents)
		}
		b = append(b, slowFrame(contents)...)
		if next, wrong := slowDo(s, e); wrong == 0 {
			s = next
		}
	}
	if m.next(3) == 0 {
		b = m.spoil(b)
	}
	return b
}

// tally counts the answers of Do and of Replay by their errors, and of Read by whether there was an edit.
type tally struct {
	did, replayed [api.ErrArgument + 1]int
	read          [2]int
}

func holdAll(t *testing.T, m maker, n *tally) {
	t.Helper()
	s := m.set()
	e := m.edit(s)
	_, wrong := holdDo(t, s, e)
	n.did[wrong]++
	if wrong == 0 {
		holdDo(t, Set{}, All(s))
	}
	if _, ok := holdRead(t, m.spoil(slowBytes(e))); ok {
		n.read[1]++
	} else {
		n.read[0]++
	}
	_, _, wrong = holdReplay(t, m.journal())
	n.replayed[wrong]++
}

func TestAsTheSlowFunctions(t *testing.T) {
	m := maker{rand.New(rand.NewPCG(10, 1)).IntN}
	var n tally
	for range 30000 {
		holdAll(t, m, &n)
	}
	for _, wrong := range []api.Errno{0, api.ErrUnknown, api.ErrArgument, api.ErrExist, api.ErrOrder} {
		if n.did[wrong] < 300 {
			t.Errorf("Do: only %d answers %d", n.did[wrong], wrong)
		}
	}
	if n.replayed[0] < 5000 || n.replayed[api.ErrCorrupt] < 5000 || min(n.read[0], n.read[1]) < 5000 {
		t.Errorf("too few answers of one kind: %v", n)
	}
}

// FuzzEdits holds the functions against the slow ones, for lists, edits and journals of any kind.
func FuzzEdits(f *testing.F) {
	f.Add([]byte{0})
	f.Add([]byte("a list, an edit, and a journal"))
	f.Fuzz(func(t *testing.T, numbers []byte) {
		at := 0
		next := func(n int) int {
			if len(numbers) == 0 {
				return 0
			}
			at++
			return (int(numbers[at%len(numbers)]) + at/len(numbers)) % n
		}
		holdAll(t, maker{next}, new(tally))
	})
}

// FuzzBytes holds the readers against the slow ones, for any bytes: as an edit's, as a journal's, and as what a frame behind another one has.
func FuzzBytes(f *testing.F) {
	f.Add([]byte(nil))
	for _, e := range edits {
		f.Add(slowBytes(e))
		f.Add(slowFrame(slowBytes(e)))
	}
	f.Fuzz(func(t *testing.T, b []byte) {
		if e, ok := holdRead(t, b); ok {
			wantBytes(t, "Bytes", Bytes(e), b)
			holdDo(t, three, e)
		}
		holdReplay(t, b)
		first := slowFrame(slowBytes(Edit{Add: three.Refs, Floor: three.Floor}))
		holdReplay(t, slices.Concat(first, b))
		holdReplay(t, slices.Concat(first, slowFrame(b)))
	})
}
