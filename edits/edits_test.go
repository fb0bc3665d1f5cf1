package edits

import (
	"bytes"
	"fmt"
	"math"
	"slices"
	"strings"
	"testing"

	"tephra/api"
	"tephra/frame"
)

// million is the greatest index, as the document writes it.
const million = 1 << 20

// numbers are ordinary ones, those at the edges, and wrong ones.
var numbers = []int{math.MinInt, -1 << 32, -million, -2, -1, 0, 1, 2, 7, 255, 256, million - 1, million, million + 1, 1 << 32, 1<<32 + 1, math.MaxInt - 1, math.MaxInt}

// full, change and part are files of the three kinds that may be listed, by their names.
func full(name string, at int) api.Ref {
	return api.Ref{Name: name, Kind: api.Full, From: at, To: at}
}

func change(name string, from, to int) api.Ref {
	return api.Ref{Name: name, Kind: api.Delta, From: from, To: to}
}

func part(name string, from, to int) api.Ref {
	return api.Ref{Name: name, Kind: api.Part, From: from, To: to}
}

// three is a list from which the tests go out.
var three = Set{Refs: []api.Ref{part("a", 0, 4), full("b", 3), change("c", 3, 4)}, Floor: 2}

// edits are some of any kind, possible or not.
var edits = []Edit{
	{},
	{Floor: 7},
	{Floor: -1},
	{Floor: math.MaxInt},
	{Add: []api.Ref{full("b", 2)}, Drop: []string{"a"}, Floor: 7},
	{Add: []api.Ref{full("b", 2), change("c", 2, 258), part("1234567890123456", 0, million)}},
	{Add: []api.Ref{{}, {Name: "\x00\xff\xe5", Kind: 255, From: -1, To: math.MinInt}, {Name: strings.Repeat("n", 300), Kind: api.Kinds, From: 1 << 40, To: -1 << 40}}, Floor: math.MinInt},
	{Drop: []string{"", "a", "a", "\x00\x00\x00\x00\x00\x00\x00\x00", strings.Repeat("n", 300)}},
	{Add: []api.Ref{part("p", 0, 8), part("q", 8, 8), part("p", 0, 8)}, Drop: []string{"x", "", "y"}, Floor: -1 << 40},
}

func copySet(s Set) Set {
	return Set{slices.Clone(s.Refs), s.Floor}
}

func copyEdit(e Edit) Edit {
	return Edit{slices.Clone(e.Add), slices.Clone(e.Drop), e.Floor}
}

func sameSet(a, b Set) bool {
	return slices.Equal(a.Refs, b.Refs) && a.Floor == b.Floor
}

func sameEdit(a, b Edit) bool {
	return slices.Equal(a.Add, b.Add) && slices.Equal(a.Drop, b.Drop) && a.Floor == b.Floor
}

func wantBytes(t *testing.T, what string, got, want []byte) {
	t.Helper()
	if !bytes.Equal(got, want) {
		t.Fatalf("%s: %x, not %x", what, got, want)
	}
}

// wantSet fails unless an edit of a list yields this one.
func wantSet(t *testing.T, s Set, e Edit, want Set) {
	t.Helper()
	got, wrong := holdDo(t, s, e)
	if !sameSet(got, want) || wrong != 0 {
		t.Fatalf("%#v of %#v: %#v, error %d, not %#v", e, s, got, wrong, want)
	}
}

func wantError(t *testing.T, s Set, e Edit, want api.Errno) {
	t.Helper()
	got, wrong := holdDo(t, s, e)
	if len(got.Refs) != 0 || got.Floor != 0 || wrong != want {
		t.Fatalf("%#v of %#v: %#v, error %d, not %d", e, s, got, wrong, want)
	}
}

func wantEdit(t *testing.T, b []byte, want Edit) {
	t.Helper()
	got, ok := holdRead(t, b)
	if !sameEdit(got, want) || !ok {
		t.Fatalf("%x: %#v, %v, not %#v", b, got, ok, want)
	}
}

func wantNoEdit(t *testing.T, what string, b []byte) {
	t.Helper()
	if e, ok := holdRead(t, b); ok || len(e.Add) != 0 || len(e.Drop) != 0 || e.Floor != 0 {
		t.Fatalf("%s: %x: %#v, %v", what, b, e, ok)
	}
}

// wantList fails unless bytes are replayed to this list, and up to there.
func wantList(t *testing.T, b []byte, want Set, wantEnd int) {
	t.Helper()
	got, end, wrong := holdReplay(t, b)
	if !sameSet(got, want) || end != wantEnd || wrong != 0 {
		t.Fatalf("%x: %#v, %d, error %d, not %#v, %d", b, got, end, wrong, want, wantEnd)
	}
}

func wantCorrupt(t *testing.T, what string, b []byte) {
	t.Helper()
	if got, end, wrong := holdReplay(t, b); len(got.Refs) != 0 || got.Floor != 0 || end != 0 || wrong != api.ErrCorrupt {
		t.Fatalf("%s: %x: %#v, %d, error %d", what, b, got, end, wrong)
	}
}

// changed is a copy with one byte set.
func changed(b []byte, at int, c byte) []byte {
	b = bytes.Clone(b)
	b[at] = c
	return b
}

// P10.1

func TestConstantsAreThoseOfTheDocument(t *testing.T) {
	if api.Full != 0 || api.Delta != 1 || api.Part != 2 || api.Kinds != 3 || api.MaxEntry != million || api.MaxFrame != 16384 {
		t.Error("the promises name other numbers")
	}
	if api.ErrExist != 5 || api.ErrUnknown != 6 || api.ErrOrder != 8 || api.ErrCorrupt != 10 || api.ErrArgument != 14 {
		t.Error("the errors are others")
	}
}

func wantMay(t *testing.T, r api.Ref, want bool) {
	t.Helper()
	if got := May(r); got != want || slowMay(r) != want {
		t.Fatalf("%#v: %v, not %v", r, got, want)
	}
}

func TestMayOfNames(t *testing.T) {
	for n := range 40 {
		for _, text := range []string{"a", "\x00", "\xff", "é", "字", "🜂", "\n", "/"} {
			name := strings.Repeat(text, n)
			ok := len(name) >= 1 && len(name) <= 16
			wantMay(t, full(name, 3), ok)
			wantMay(t, change(name, 3, 4), ok)
			wantMay(t, part(name, 3, 4), ok)
		}
	}
	wantMay(t, full("", 0), false)
	wantMay(t, full("a", 0), true)
	wantMay(t, full("1234567890123456", 0), true)
	wantMay(t, full("12345678901234567", 0), false)
	wantMay(t, full(strings.Repeat("n", 1<<16), 0), false)
	wantMay(t, full(strings.Repeat("n", 256+16), 0), false)
	wantMay(t, full("J", 0), true)
	wantMay(t, full("t", 0), true)
}

func TestMayOfKinds(t *testing.T) {
	for _, kind := range append(numbers, 3, 4, 5, 254, 257, 258, 1<<32+2, -253, -254, -255, -256) {
		wantMay(t, api.Ref{Name: "a", Kind: api.Kind(kind), From: 3, To: 3}, kind >= 0 && kind <= 2)
		wantMay(t, api.Ref{Name: "a", Kind: api.Kind(kind), From: 3, To: 4}, kind == 1 || kind == 2)
		wantMay(t, api.Ref{Name: "a", Kind: api.Kind(kind), From: 4, To: 3}, false)
	}
}

func TestMayOfIndices(t *testing.T) {
	for _, from := range numbers {
		for _, to := range numbers {
			ok := from >= 0 && from <= to && to <= 1048576
			wantMay(t, full("a", from), from >= 0 && from <= 1048576)
			wantMay(t, api.Ref{Name: "a", Kind: api.Full, From: from, To: to}, ok && from == to)
			wantMay(t, change("a", from, to), ok)
			wantMay(t, part("a", from, to), ok)
		}
	}
	wantMay(t, part("a", 0, 0), true)
	wantMay(t, part("a", million, million), true)
	wantMay(t, part("a", 0, million), true)
	wantMay(t, change("a", -1, 0), false)
	wantMay(t, change("a", 5, 4), false)
	wantMay(t, change("a", 0, million+1), false)
	wantMay(t, full("a", million+1), false)
	wantMay(t, api.Ref{Name: "a", Kind: api.Full, From: 0, To: 1}, false)
	wantMay(t, api.Ref{Name: "a", Kind: api.Full, From: 1, To: 0}, false)
	wantMay(t, api.Ref{}, false)
}

func wantFind(t *testing.T, s Set, name string, want int) {
	t.Helper()
	before := copySet(s)
	if at := Find(s, name); at != want || slowFind(s, name) != want {
		t.Fatalf("%q in %#v: %d, not %d", name, s, at, want)
	}
	if !sameSet(s, before) {
		t.Fatalf("%#v was changed: %#v", before, s)
	}
}

func TestFind(t *testing.T) {
	wantFind(t, three, "a", 0)
	wantFind(t, three, "b", 1)
	wantFind(t, three, "c", 2)
	for _, name := range []string{"", "d", "A", "ab", "aa", "a\x00", " a", "\x00", "B", "bc"} {
		wantFind(t, three, name, -1)
	}
	for _, name := range []string{"", "a"} {
		wantFind(t, Set{}, name, -1)
		wantFind(t, Set{Refs: []api.Ref{}, Floor: 3}, name, -1)
	}
}

// Neither the order of the files nor whether they may be listed matters.
func TestFindInAnyList(t *testing.T) {
	s := Set{Refs: []api.Ref{full("c", 1), full("a", 2), part("b", 3, 4), full("a", 5), {Kind: 9, To: -1}, full("c", 1), {Name: "12345678901234567"}, {}, full("a", 2)}}
	wantFind(t, s, "c", 0)
	wantFind(t, s, "a", 1)
	wantFind(t, s, "b", 2)
	wantFind(t, s, "", 4)
	wantFind(t, s, "12345678901234567", 6)
	wantFind(t, s, "1234567890123456", -1)
	s.Refs = s.Refs[1:]
	wantFind(t, s, "c", 4)
	wantFind(t, s, "a", 0)
	wantFind(t, Set{Refs: s.Refs[:1]}, "b", -1)
}

// P10.2

func TestDoAdds(t *testing.T) {
	a, b, c := part("a", 0, 4), full("b", 3), change("c", 3, 4)
	for _, add := range [][]api.Ref{{a, b, c}, {a, c, b}, {b, a, c}, {b, c, a}, {c, a, b}, {c, b, a}} {
		wantSet(t, Set{}, Edit{Add: add, Floor: 2}, three)
		wantSet(t, Set{Floor: 1}, Edit{Add: add, Floor: 2}, three)
		wantSet(t, Set{Refs: add[:1], Floor: 2}, Edit{Add: add[1:], Floor: 2}, three)
		wantSet(t, Set{Refs: add[:2], Floor: 2}, Edit{Add: add[2:], Floor: 2}, three)
		wantSet(t, Set{Refs: add}, Edit{Floor: 2}, three)
	}
	wantSet(t, three, Edit{Add: []api.Ref{full("ab", 0)}, Floor: 2}, Set{[]api.Ref{a, full("ab", 0), b, c}, 2})
	wantSet(t, three, Edit{Add: []api.Ref{full("d", 0), full("B", 0)}, Floor: 2}, Set{[]api.Ref{full("B", 0), a, b, c, full("d", 0)}, 2})
}

// Names are in order as bytes are, not as words.
func TestDoSortsByName(t *testing.T) {
	names := []string{"\x00", "\x00\x00", " ", "0", "10", "2", "A", "Z", "_", "a", "a\x00", "aa", "ab", "b", "z", "é", "\xff", "\xff\xff"}
	var rising []api.Ref
	for n, name := range names {
		rising = append(rising, part(name, n, 2*n))
	}
	for step := range len(names) {
		// 18 names: a step that shares no divisor goes over all of them.
		if step%2 == 0 || step%3 == 0 {
			continue
		}
		var add []api.Ref
		for n := range names {
			add = append(add, rising[(n*step+step)%len(names)])
		}
		wantSet(t, Set{}, Edit{Add: add}, Set{Refs: rising})
		wantSet(t, Set{Refs: add}, Edit{}, Set{Refs: rising})
		wantSet(t, Set{Refs: add[:9]}, Edit{Add: add[9:]}, Set{Refs: rising})
	}
}

func TestDoDrops(t *testing.T) {
	a, b, c := three.Refs[0], three.Refs[1], three.Refs[2]
	for _, x := range []struct {
		drop []string
		want []api.Ref
	}{
		{nil, []api.Ref{a, b, c}},
		{[]string{}, []api.Ref{a, b, c}},
		{[]string{"a"}, []api.Ref{b, c}},
		{[]string{"b"}, []api.Ref{a, c}},
		{[]string{"c"}, []api.Ref{a, b}},
		{[]string{"c", "a"}, []api.Ref{b}},
		{[]string{"b", "c"}, []api.Ref{a}},
		{[]string{"b", "a", "c"}, nil},
	} {
		wantSet(t, three, Edit{Drop: x.drop, Floor: 2}, Set{x.want, 2})
		wantSet(t, Set{[]api.Ref{c, b, a}, 2}, Edit{Drop: x.drop, Floor: 2}, Set{x.want, 2})
	}
}

func TestDoDropsWhatIsNotThere(t *testing.T) {
	for _, name := range []string{"", "d", "A", "aa", "a\x00", "12345678901234567"} {
		wantError(t, three, Edit{Drop: []string{name}, Floor: 2}, api.ErrUnknown)
		wantError(t, three, Edit{Drop: []string{"a", name}, Floor: 2}, api.ErrUnknown)
		wantError(t, three, Edit{Drop: []string{name, "a"}, Floor: 2}, api.ErrUnknown)
		wantError(t, three, Edit{Drop: []string{"a", "b", "c", name}, Floor: 2}, api.ErrUnknown)
		wantError(t, Set{}, Edit{Drop: []string{name}}, api.ErrUnknown)
	}
	wantError(t, Set{}, Edit{Drop: []string{"a"}}, api.ErrUnknown)
	wantError(t, three, Edit{Drop: []string{"a", "a"}, Floor: 2}, api.ErrUnknown)
	wantError(t, three, Edit{Drop: []string{"a", "b", "a"}, Floor: 2}, api.ErrUnknown)
	wantError(t, three, Edit{Drop: []string{"c", "c", "c"}, Floor: 2}, api.ErrUnknown)
}

// All names are dropped ahead of the files that come: one that only comes is not there yet.
func TestDoDropsAheadOfAdding(t *testing.T) {
	d := full("d", 9)
	wantError(t, three, Edit{Add: []api.Ref{d}, Drop: []string{"d"}, Floor: 2}, api.ErrUnknown)
	wantError(t, Set{}, Edit{Add: []api.Ref{d}, Drop: []string{"d"}}, api.ErrUnknown)
	wantSet(t, three, Edit{Add: []api.Ref{d}, Drop: []string{"a", "b", "c"}, Floor: 2}, Set{[]api.Ref{d}, 2})
}

func TestDoDropsAndAddsOne(t *testing.T) {
	a, b, c := three.Refs[0], three.Refs[1], three.Refs[2]
	wantSet(t, three, Edit{Add: []api.Ref{a}, Drop: []string{"a"}, Floor: 2}, three)
	wantSet(t, three, Edit{Add: []api.Ref{part("a", 0, 8)}, Drop: []string{"a"}, Floor: 2}, Set{[]api.Ref{part("a", 0, 8), b, c}, 2})
	wantSet(t, three, Edit{Add: []api.Ref{full("c", 1), full("a", 1)}, Drop: []string{"a", "c"}, Floor: 3}, Set{[]api.Ref{full("a", 1), b, full("c", 1)}, 3})
	wantError(t, three, Edit{Add: []api.Ref{a}, Drop: []string{"a", "a"}, Floor: 2}, api.ErrUnknown)
	wantError(t, three, Edit{Add: []api.Ref{a, a}, Drop: []string{"a"}, Floor: 2}, api.ErrExist)
	wantError(t, three, Edit{Add: []api.Ref{{Name: "a", Kind: 3}}, Drop: []string{"a"}, Floor: 2}, api.ErrArgument)
}

// wrongRefs may not be listed, each by one thing.
func wrongRefs() []api.Ref {
	return []api.Ref{
		{},
		full("", 3),
		full("12345678901234567", 3),
		full("d", -1),
		full("d", million+1),
		change("d", -1, 3),
		change("d", 4, 3),
		change("d", 3, million+1),
		part("d", -1, 3),
		part("d", 4, 3),
		part("d", million+1, million+1),
		part("d", math.MinInt, math.MaxInt),
		{Name: "d", Kind: api.Full, From: 3, To: 4},
		{Name: "d", Kind: api.Full, From: 4, To: 3},
		{Name: "d", Kind: -1, From: 3, To: 3},
		{Name: "d", Kind: api.Kinds, From: 3, To: 3},
		{Name: "d", Kind: 256, From: 3, To: 3},
	}
}

func TestDoAddsWhatIsNotValid(t *testing.T) {
	for _, r := range wrongRefs() {
		wantError(t, three, Edit{Add: []api.Ref{r}, Floor: 2}, api.ErrArgument)
		wantError(t, Set{}, Edit{Add: []api.Ref{r}}, api.ErrArgument)
		wantError(t, three, Edit{Add: []api.Ref{full("e", 3), r}, Floor: 2}, api.ErrArgument)
		wantError(t, three, Edit{Add: []api.Ref{r, full("e", 3)}, Floor: 2}, api.ErrArgument)
	}
}

func TestDoAddsWhatIsThere(t *testing.T) {
	for _, name := range []string{"a", "b", "c"} {
		for _, r := range []api.Ref{full(name, 9), change(name, 0, 9), part(name, 0, 9)} {
			wantError(t, three, Edit{Add: []api.Ref{r}, Floor: 2}, api.ErrExist)
			wantError(t, three, Edit{Add: []api.Ref{full("d", 0), r, full("e", 0)}, Floor: 2}, api.ErrExist)
		}
	}
	wantError(t, three, Edit{Add: three.Refs[:1], Floor: 2}, api.ErrExist)
	d := full("d", 9)
	wantError(t, three, Edit{Add: []api.Ref{d, d}, Floor: 2}, api.ErrExist)
	wantError(t, Set{}, Edit{Add: []api.Ref{d, full("e", 9), part("d", 0, 1)}}, api.ErrExist)
	wantError(t, three, Edit{Add: []api.Ref{full("b", 9)}, Drop: []string{"a", "c"}, Floor: 2}, api.ErrExist)
}

// Files are added in order, so the error of the first one that may not be counts; of one file ErrArgument is first.
func TestDoOfSeveralWrongFiles(t *testing.T) {
	there, wrong := full("a", 9), api.Ref{Name: "d", Kind: api.Kinds}
	both := api.Ref{Name: "a", Kind: api.Kinds}
	for _, x := range []struct {
		add  []api.Ref
		want api.Errno
	}{
		{[]api.Ref{both}, api.ErrArgument},
		{[]api.Ref{there, wrong}, api.ErrExist},
		{[]api.Ref{wrong, there}, api.ErrArgument},
		{[]api.Ref{there, both}, api.ErrExist},
		{[]api.Ref{both, there}, api.ErrArgument},
		{[]api.Ref{full("e", 1), there, wrong}, api.ErrExist},
		{[]api.Ref{full("e", 1), full("e", 1), wrong}, api.ErrExist},
		{[]api.Ref{full("e", 1), {Name: "e", Kind: 9}}, api.ErrArgument},
		{[]api.Ref{wrong, wrong}, api.ErrArgument},
	} {
		wantError(t, three, Edit{Add: x.add, Floor: 2}, x.want)
		wantError(t, three, Edit{Add: x.add, Floor: 1}, x.want)
		wantError(t, three, Edit{Add: x.add, Drop: []string{"b"}, Floor: million + 1}, x.want)
	}
}

func TestDoOfSeveralErrors(t *testing.T) {
	there, wrong := full("a", 9), api.Ref{Name: "d", Kind: api.Kinds}
	for _, floor := range []int{1, million + 1} {
		wantError(t, three, Edit{Add: []api.Ref{wrong, there}, Drop: []string{"x"}, Floor: floor}, api.ErrUnknown)
		wantError(t, three, Edit{Add: []api.Ref{there}, Drop: []string{"b", "b"}, Floor: floor}, api.ErrUnknown)
		wantError(t, three, Edit{Drop: []string{"x"}, Floor: floor}, api.ErrUnknown)
		wantError(t, three, Edit{Add: []api.Ref{wrong}, Drop: []string{"b"}, Floor: floor}, api.ErrArgument)
		wantError(t, three, Edit{Add: []api.Ref{there}, Drop: []string{"b"}, Floor: floor}, api.ErrExist)
		wantError(t, three, Edit{Add: []api.Ref{full("d", 9)}, Drop: []string{"b"}, Floor: floor}, api.ErrOrder)
	}
	wantError(t, three, Edit{Add: []api.Ref{wrong}, Drop: []string{"x"}, Floor: 2}, api.ErrUnknown)
	wantError(t, three, Edit{Add: []api.Ref{there}, Drop: []string{"x"}, Floor: 2}, api.ErrUnknown)
}

func TestDoOfFloors(t *testing.T) {
	for _, old := range numbers {
		for _, floor := range numbers {
			s, e := Set{three.Refs, old}, Edit{Floor: floor}
			if floor >= old && floor <= 1048576 {
				wantSet(t, s, e, Set{three.Refs, floor})
			} else {
				wantError(t, s, e, api.ErrOrder)
			}
		}
	}
	wantError(t, three, Edit{Floor: 1}, api.ErrOrder)
	wantError(t, three, Edit{}, api.ErrOrder)
	wantSet(t, three, Edit{Floor: 2}, three)
	wantSet(t, three, Edit{Floor: 3}, Set{three.Refs, 3})
	wantSet(t, three, Edit{Floor: 1048576}, Set{three.Refs, 1048576})
	wantError(t, three, Edit{Floor: 1048577}, api.ErrOrder)
	wantSet(t, Set{}, Edit{}, Set{})
	wantError(t, Set{}, Edit{Floor: -1}, api.ErrOrder)
	wantSet(t, Set{Floor: -3}, Edit{Floor: -2}, Set{Floor: -2})
}

// A list that is no Do's may have what may not be listed, and several files of one name. It is only what the edit adds that is looked at, and a name that is dropped takes away the first file of it.
func TestDoOfAnyList(t *testing.T) {
	wrong := Set{Refs: wrongRefs()}
	wantSet(t, wrong, Edit{}, Set{Refs: slowSort(wrongRefs())})
	wantSet(t, Set{Refs: wrongRefs()[1:3]}, Edit{Drop: []string{"", "12345678901234567"}}, Set{})

	first, second, other := full("a", 9), full("a", 1), full("b", 5)
	s := Set{Refs: []api.Ref{other, first, second}}
	wantSet(t, s, Edit{}, Set{Refs: []api.Ref{first, second, other}})
	wantSet(t, s, Edit{Drop: []string{"a"}}, Set{Refs: []api.Ref{second, other}})
	wantSet(t, s, Edit{Drop: []string{"a", "a"}}, Set{Refs: []api.Ref{other}})
	wantSet(t, s, Edit{Add: []api.Ref{first}, Drop: []string{"a", "b", "a"}}, Set{Refs: []api.Ref{first}})
	wantError(t, s, Edit{Drop: []string{"a", "a", "a"}}, api.ErrUnknown)
	wantError(t, s, Edit{Add: []api.Ref{first}, Drop: []string{"a"}}, api.ErrExist)
	wantError(t, s, Edit{Add: []api.Ref{first}}, api.ErrExist)
}

func TestDoOfManyFiles(t *testing.T) {
	var add, want []api.Ref
	var drop []string
	for n := range 20000 {
		r := part(fmt.Sprintf("p%08d", n), n, n+8)
		add = append(add, r)
		if n%3 == 0 {
			drop = append(drop, r.Name)
		} else {
			want = append(want, r)
		}
	}
	slices.Reverse(drop)
	falling := slices.Clone(add)
	slices.Reverse(falling)
	s, wrong := Do(Set{}, Edit{Add: falling, Floor: 1})
	if !sameSet(s, Set{add, 1}) || wrong != 0 {
		t.Fatalf("%d files, error %d", len(s.Refs), wrong)
	}
	s, wrong = Do(s, Edit{Drop: drop, Floor: 2})
	if !sameSet(s, Set{want, 2}) || wrong != 0 {
		t.Fatalf("%d files, error %d", len(s.Refs), wrong)
	}
	if s, wrong = Do(s, Edit{Add: want[len(want)-1:], Floor: 3}); len(s.Refs) != 0 || s.Floor != 0 || wrong != api.ErrExist {
		t.Fatalf("%d files, error %d", len(s.Refs), wrong)
	}
}

func TestAll(t *testing.T) {
	for _, s := range []Set{
		{},
		{Floor: 7},
		{Refs: []api.Ref{}, Floor: -1},
		three,
		{Refs: []api.Ref{full("c", 1), full("a", 2), full("b", 3), full("a", 2)}, Floor: math.MinInt},
		{Refs: wrongRefs(), Floor: math.MaxInt},
	} {
		before := copySet(s)
		if e := All(s); !sameEdit(e, Edit{Add: before.Refs, Floor: before.Floor}) {
			t.Errorf("%#v: %#v", s, e)
		}
		if !sameSet(s, before) {
			t.Errorf("%#v was changed: %#v", before, s)
		}
	}
}

func TestDoOfAll(t *testing.T) {
	wantSet(t, Set{}, All(Set{}), Set{})
	wantSet(t, Set{}, All(Set{Floor: 7}), Set{Floor: 7})
	wantSet(t, Set{}, All(three), three)
	wantSet(t, Set{}, All(Set{[]api.Ref{three.Refs[2], three.Refs[0], three.Refs[1]}, 2}), three)
	wantSet(t, Set{Floor: 2}, All(three), three)
	wantError(t, Set{Floor: 3}, All(three), api.ErrOrder)
	wantError(t, three, All(three), api.ErrExist)
	wantError(t, Set{}, All(Set{Refs: wrongRefs()}), api.ErrArgument)
	wantError(t, Set{}, All(Set{Refs: []api.Ref{three.Refs[0], three.Refs[0]}}), api.ErrExist)
	wantError(t, Set{}, All(Set{Floor: -1}), api.ErrOrder)
}

// spare is a copy with room behind it, in which there is something of the caller's.
func spare[E any](all []E) []E {
	return append(slices.Clone(all), all...)[:len(all)]
}

func TestResultsShareNothing(t *testing.T) {
	s := Set{spare(three.Refs), 2}
	e := Edit{Add: spare([]api.Ref{full("x", 1), full("d", 9)}), Drop: spare([]string{"b"}), Floor: 2}
	room, moreRoom := slices.Clone(s.Refs[:6]), slices.Clone(e.Add[:4])
	want := Set{[]api.Ref{three.Refs[0], three.Refs[2], full("d", 9), full("x", 1)}, 2}
	wantSet(t, s, e, want)
	if !slices.Equal(s.Refs[:6], room) || !slices.Equal(e.Add[:4], moreRoom) || !slices.Equal(e.Drop[:2], []string{"b", "b"}) {
		t.Errorf("the room behind an argument was changed: %#v, %#v", s.Refs[:6], e)
	}
	got, _ := Do(s, e)
	again, _ := Do(s, e)
	same, _ := Do(s, Edit{Floor: 2})
	only, _ := Do(Set{}, Edit{Add: s.Refs, Floor: 2})
	all := All(s)
	clear(s.Refs)
	clear(e.Add)
	clear(e.Drop)
	clear(again.Refs[:cap(again.Refs)])
	if !sameSet(got, want) || !sameSet(same, three) || !sameSet(only, three) || !sameEdit(all, Edit{Add: three.Refs, Floor: 2}) {
		t.Errorf("%#v, %#v, %#v, %#v", got, same, only, all)
	}
	clear(all.Add[:cap(all.Add)])
	if !sameSet(only, three) {
		t.Errorf("%#v", only)
	}
}

// P10.3

const zeros = "\x00\x00\x00\x00\x00\x00\x00"

func TestBytesWrittenOut(t *testing.T) {
	for _, x := range []struct {
		e    Edit
		want string
	}{
		{Edit{}, zeros + "\x00" + zeros + "\x00" + zeros + "\x00"},
		{Edit{Floor: 258}, "\x00\x00\x00\x00\x00\x00\x01\x02" + zeros + "\x00" + zeros + "\x00"},
		{Edit{Floor: -2}, "\xff\xff\xff\xff\xff\xff\xff\xfe" + zeros + "\x00" + zeros + "\x00"},
		{Edit{Add: []api.Ref{full("b", 2)}, Drop: []string{"a"}, Floor: 7},
			zeros + "\x07" + zeros + "\x01" + zeros + "\x01b" + "\x00" + zeros + "\x02" + zeros + "\x02" + zeros + "\x01" + zeros + "\x01a"},
		{Edit{Add: []api.Ref{part("pq", 3, 258), change("", -1, 4)}},
			zeros + "\x00" + zeros + "\x02" +
				zeros + "\x02pq" + "\x02" + zeros + "\x03" + "\x00\x00\x00\x00\x00\x00\x01\x02" +
				zeros + "\x00" + "\x01" + "\xff\xff\xff\xff\xff\xff\xff\xff" + zeros + "\x04" +
				zeros + "\x00"},
		{Edit{Drop: []string{"b", "", "a\x00"}},
			zeros + "\x00" + zeros + "\x00" + zeros + "\x03" + zeros + "\x01b" + zeros + "\x00" + zeros + "\x02a\x00"},
	} {
		wantBytes(t, "Bytes", Bytes(x.e), []byte(x.want))
	}
}

func TestBytesOfAnyEdit(t *testing.T) {
	for _, e := range edits {
		before := copyEdit(e)
		wantBytes(t, "Bytes", Bytes(e), slowBytes(before))
		if !sameEdit(e, before) {
			t.Errorf("%#v was changed: %#v", before, e)
		}
	}
	for _, n := range numbers {
		for _, e := range []Edit{
			{Floor: n},
			{Add: []api.Ref{full("a", n)}},
			{Add: []api.Ref{{Name: "a", From: n}, {To: n}}},
			{Add: []api.Ref{{Name: "a", Kind: api.Kind(n)}}, Drop: []string{"a"}},
		} {
			wantBytes(t, "Bytes", Bytes(e), slowBytes(e))
		}
	}
}

func TestBytesAreNew(t *testing.T) {
	e := edits[4]
	b := Bytes(e)
	clear(b[:cap(b)])
	wantBytes(t, "Bytes", Bytes(e), slowBytes(e))
}

// Read does not ask whether an edit is possible, nor whether its files may be listed.
func TestRead(t *testing.T) {
	for _, e := range edits {
		wantEdit(t, Bytes(e), e)
	}
	for _, n := range numbers {
		wantEdit(t, Bytes(Edit{Floor: n}), Edit{Floor: n})
		for _, m := range numbers {
			e := Edit{Add: []api.Ref{part("a", n, m), change("a", m, n)}, Drop: []string{"b", ""}, Floor: m}
			wantEdit(t, Bytes(e), e)
		}
	}
	for n := range 300 {
		name := strings.Repeat("n", n)
		e := Edit{Add: []api.Ref{full(name, n)}, Drop: []string{name}, Floor: n}
		wantEdit(t, Bytes(e), e)
	}
}

// A Kind is written as a byte, so of those that are none only the last eight bits are read back.
func TestReadOfKinds(t *testing.T) {
	for c := range 256 {
		e := Edit{Add: []api.Ref{{Name: "a", Kind: api.Kind(c), From: 1, To: 2}}}
		wantEdit(t, Bytes(e), e)
		for _, more := range []int{256, 512, -256, 1 << 32, math.MinInt} {
			other := Edit{Add: []api.Ref{{Name: "a", Kind: api.Kind(c + more), From: 1, To: 2}}}
			wantBytes(t, "Bytes", Bytes(other), Bytes(e))
			wantEdit(t, Bytes(other), e)
		}
	}
}

func TestReadOfBytesCutOff(t *testing.T) {
	for _, e := range edits {
		b := slowBytes(e)
		for n := range b {
			wantNoEdit(t, "cut off", b[:n])
		}
	}
	b := slowBytes(edits[5])
	for n := range b {
		holdRead(t, b[n+1:])
	}
}

func TestReadOfMoreBytes(t *testing.T) {
	for _, e := range edits {
		b := slowBytes(e)
		for _, more := range [][]byte{{0}, {1}, {0xe5}, make([]byte, 7), make([]byte, 8), make([]byte, 16), appendText(nil, "a"), appendRef(nil, full("a", 1)), b} {
			wantNoEdit(t, "more behind", slices.Concat(b, more))
		}
		wantNoEdit(t, "a frame", slowFrame(b))
	}
}

func TestReadOfFewBytes(t *testing.T) {
	wantNoEdit(t, "nil", nil)
	wantNoEdit(t, "nothing", []byte{})
	for n := range 100 {
		if n != 24 {
			wantNoEdit(t, "zeros", make([]byte, n))
		}
		wantNoEdit(t, "ones", bytes.Repeat([]byte{0xff}, n))
		wantNoEdit(t, "ends", bytes.Repeat([]byte{0xe5}, n))
	}
	wantEdit(t, make([]byte, 24), Edit{})
}

// Another byte makes another edit or none: the encoding has no sum.
func TestReadOfOneOtherByte(t *testing.T) {
	for _, e := range edits[:6] {
		b := slowBytes(e)
		for at := range b {
			for c := range 256 {
				if b[at] == byte(c) {
					continue
				}
				other := changed(b, at, byte(c))
				if got, ok := holdRead(t, other); ok {
					wantBytes(t, "Bytes", Bytes(got), other)
				}
			}
		}
	}
	b := slowBytes(edits[4])
	wantEdit(t, changed(b, 7, 8), Edit{edits[4].Add, edits[4].Drop, 8})
	wantEdit(t, changed(b, 0, 0x80), Edit{edits[4].Add, edits[4].Drop, math.MinInt + 7})
	wantEdit(t, changed(b, 24, 'x'), Edit{[]api.Ref{full("x", 2)}, edits[4].Drop, 7})
	wantEdit(t, changed(b, 25, 9), Edit{[]api.Ref{{Name: "b", Kind: 9, From: 2, To: 2}}, edits[4].Drop, 7})
	wantEdit(t, changed(b, 41, 9), Edit{[]api.Ref{{Name: "b", From: 2, To: 9}}, edits[4].Drop, 7})
	wantEdit(t, changed(b, 58, 'x'), Edit{edits[4].Add, []string{"x"}, 7})
	for _, at := range []int{8, 15, 16, 23, 42, 49, 50, 57} {
		for c := range 256 {
			if b[at] != byte(c) {
				wantNoEdit(t, "another number of files, bytes or names", changed(b, at, byte(c)))
			}
		}
	}
}

func TestReadOfOtherNumbers(t *testing.T) {
	for _, e := range edits {
		files, names := len(e.Add), len(e.Drop)
		for _, n := range append(numbers, 3, 4, 5, 6, 100, 1<<40, -3) {
			for _, b := range [][]byte{slowBytesOf(e, n, names), slowBytesOf(e, files, n)} {
				if bytes.Equal(b, slowBytes(e)) {
					wantEdit(t, b, e)
				} else if n < 0 {
					wantNoEdit(t, fmt.Sprint("the number ", n), b)
				} else {
					holdRead(t, b)
				}
			}
		}
		for n := 1; n < 9; n++ {
			wantNoEdit(t, "more names than there are", slowBytesOf(e, files, names+n))
		}
		for _, n := range []int{million, 1 << 32, 1 << 40, 1 << 61, math.MaxInt} {
			wantNoEdit(t, "more files than there are", slowBytesOf(e, n, names))
			wantNoEdit(t, "more names than there are", slowBytesOf(e, files, n))
		}
	}
	for n := range 9 {
		if n > 0 {
			wantNoEdit(t, "files that are not there", slowBytesOf(Edit{Floor: 1}, n, 0))
			wantNoEdit(t, "names that are not there", slowBytesOf(Edit{Floor: 1}, 0, n))
			wantNoEdit(t, "a negative number of files", slowBytesOf(Edit{Floor: 1}, -n, 0))
			wantNoEdit(t, "a negative number of names", slowBytesOf(Edit{Floor: 1}, 0, -n))
			wantNoEdit(t, "more files than there are", slowBytesOf(edits[5], 3+n, 0))
		}
		if n < 3 {
			wantNoEdit(t, "fewer files than there are", slowBytesOf(edits[5], n, 0))
			wantNoEdit(t, "fewer names than there are", slowBytesOf(Edit{Drop: []string{"a", "b", "c"}}, 0, n))
		}
	}
}

// A text's length is a number too.
func TestReadOfLengths(t *testing.T) {
	for _, n := range append(numbers, 3, 100, 1<<40) {
		file := slices.Concat(appendNum(appendNum(nil, 0), 1), appendNum(nil, n), []byte("n\x01"), appendNum(appendNum(nil, 2), 3), appendNum(nil, 0))
		name := slices.Concat(appendNum(appendNum(appendNum(nil, 0), 0), 1), appendNum(nil, n), []byte("n"))
		if n == 1 {
			wantEdit(t, file, Edit{Add: []api.Ref{change("n", 2, 3)}})
			wantEdit(t, name, Edit{Drop: []string{"n"}})
		} else {
			wantNoEdit(t, fmt.Sprint("a name of ", n), file)
			wantNoEdit(t, fmt.Sprint("a name of ", n), name)
		}
	}
}

func TestReadOfManyFiles(t *testing.T) {
	e := Edit{Floor: 3}
	for n := range 5000 {
		e.Add = append(e.Add, part(fmt.Sprint("p", n), n, n+8))
		e.Drop = append(e.Drop, fmt.Sprint("q", n))
	}
	b := slowBytes(e)
	wantBytes(t, "Bytes", Bytes(e), b)
	wantEdit(t, b, e)
	wantNoEdit(t, "cut off", b[:len(b)-1])
	wantNoEdit(t, "a file less", slowBytesOf(e, 4999, 5000))
	wantNoEdit(t, "a name less", slowBytesOf(e, 5000, 4999))
}

func TestReadKeepsNothing(t *testing.T) {
	for _, e := range edits {
		b := append(slowBytes(e), 1, 2, 3)
		room := bytes.Clone(b)
		got, ok := Read(b[:len(b)-3])
		again, _ := Read(b[:len(b)-3])
		wantBytes(t, "the room behind", b, room)
		clear(b)
		clear(again.Add[:cap(again.Add)])
		clear(again.Drop[:cap(again.Drop)])
		if !sameEdit(got, e) || !ok {
			t.Errorf("%#v, not %#v", got, e)
		}
	}
}

// journal are frames of edits, and where each one ends, 0 ahead of them.
func journal(all ...Edit) ([]byte, []int) {
	var b []byte
	ends := []int{0}
	for _, e := range all {
		b = append(b, slowFrame(slowBytes(e))...)
		ends = append(ends, len(b))
	}
	return b, ends
}

// steps are edits that follow one another, and sets the lists behind them, the empty one ahead of them.
var steps = []Edit{
	{Add: []api.Ref{part("p1", 0, 0)}},
	{Add: []api.Ref{part("p2", 8, 8), part("p1", 0, 8)}, Drop: []string{"p1"}},
	{Add: []api.Ref{full("f1", 8)}},
	{Drop: []string{"p1"}, Floor: 8},
	{Add: []api.Ref{change("d1", 8, 9), change("d2", 9, 12)}, Floor: 8},
	{Add: []api.Ref{change("d3", 8, 12)}, Drop: []string{"d2", "d1"}, Floor: 9},
}

var sets = []Set{
	{},
	{Refs: []api.Ref{part("p1", 0, 0)}},
	{Refs: []api.Ref{part("p1", 0, 8), part("p2", 8, 8)}},
	{Refs: []api.Ref{full("f1", 8), part("p1", 0, 8), part("p2", 8, 8)}},
	{Refs: []api.Ref{full("f1", 8), part("p2", 8, 8)}, Floor: 8},
	{Refs: []api.Ref{change("d1", 8, 9), change("d2", 9, 12), full("f1", 8), part("p2", 8, 8)}, Floor: 8},
	{Refs: []api.Ref{change("d3", 8, 12), full("f1", 8), part("p2", 8, 8)}, Floor: 9},
}

func TestReplay(t *testing.T) {
	b, ends := journal(steps...)
	for n, want := range sets {
		wantList(t, b[:ends[n]], want, ends[n])
	}
	s := Set{}
	for n, e := range steps {
		wantSet(t, s, e, sets[n+1])
		s = sets[n+1]
	}
	wantList(t, nil, Set{}, 0)
	wantList(t, []byte{}, Set{}, 0)
}

func TestReplayOfOneEdit(t *testing.T) {
	for _, s := range append(sets, three, Set{Floor: million}) {
		f, wrong := frame.Make(Bytes(All(s)))
		if wrong != 0 {
			t.Fatal(wrong)
		}
		wantList(t, f, s, len(f))
	}
	one, _ := journal(Edit{Add: []api.Ref{full("c", 1), full("a", 2), full("b", 3)}, Floor: 5})
	wantList(t, one, Set{[]api.Ref{full("a", 2), full("b", 3), full("c", 1)}, 5}, len(one))
	none, _ := journal(Edit{})
	wantList(t, none, Set{}, len(none))
	wantList(t, slices.Concat(none, none, none), Set{}, 3*len(none))
}

func TestReplayCutOff(t *testing.T) {
	b, ends := journal(steps...)
	whole := 0
	for n := range len(b) + 1 {
		if whole+1 < len(ends) && ends[whole+1] == n {
			whole++
		}
		wantList(t, b[:n], sets[whole], ends[whole])
	}
}

// Behind a frame that is spoilt nothing is looked at, whole frames neither, be they of an edit or not.
func TestReplayOfOneOtherByte(t *testing.T) {
	b, ends := journal(steps...)
	last := slowFrame([]byte("no edit"))
	for n := range steps {
		for at := ends[n]; at < ends[n+1]; at++ {
			for bit := range 8 {
				other := changed(b, at, b[at]^1<<bit)
				wantList(t, other, sets[n], ends[n])
				if bit == 0 {
					wantList(t, append(other, last...), sets[n], ends[n])
				}
			}
		}
	}
	for at := range ends[1] {
		for c := range 256 {
			if b[at] != byte(c) {
				wantList(t, changed(b, at, byte(c)), Set{}, 0)
			}
		}
	}
}

func TestReplayWithMoreBehind(t *testing.T) {
	b, _ := journal(steps...)
	next := slowFrame(slowBytes(Edit{Floor: 10}))
	for _, more := range [][]byte{{0}, {0xe5}, make([]byte, 8), bytes.Repeat([]byte{0xff}, 50), next[:8], next[:len(next)-1], next[1:], changed(next, len(next)-1, 0), changed(next, 5, next[5]+1), slowFrame(make([]byte, 16385)), append([]byte{0}, next...), slowBytes(Edit{Floor: 10})} {
		wantList(t, slices.Concat(b, more), sets[6], len(b))
		wantList(t, more, Set{}, 0)
	}
	wantList(t, slices.Concat(b, next), Set{sets[6].Refs, 10}, len(b)+len(next))
}

// A whole frame that has no edit is never left by an append that was cut off, so the bytes are corrupt wherever it stands.
func TestReplayOfWhatIsNoEdit(t *testing.T) {
	b, ends := journal(steps...)
	good := slowBytes(Edit{Floor: 9})
	for _, contents := range [][]byte{nil, {0}, make([]byte, 23), make([]byte, 25), make([]byte, 16384), []byte("no edit"), good[:23], append(slices.Clone(good), 0), slices.Concat(good, good), slowFrame(good), slowBytesOf(Edit{Floor: 9}, -1, 0), slowBytesOf(Edit{Floor: 9}, 0, -1), slowBytesOf(Edit{Floor: 9}, 1, 0), slowBytesOf(Edit{Floor: 9}, 0, math.MaxInt)} {
		wrong := slowFrame(contents)
		for _, end := range ends {
			wantCorrupt(t, "no edit", slices.Concat(b[:end], wrong))
			wantCorrupt(t, "no edit", slices.Concat(b[:end], wrong, b[end:]))
			wantCorrupt(t, "no edit", slices.Concat(b[:end], wrong, []byte{0}))
		}
	}
	wantList(t, slices.Concat(b, slowFrame(good)), sets[6], len(b)+len(good)+9)
}

func TestReplayOfEditsThatAreNotPossible(t *testing.T) {
	b, _ := journal(steps...)
	more, _ := journal(Edit{Floor: 9})
	for _, x := range []struct {
		e    Edit
		want api.Errno
	}{
		{Edit{Drop: []string{"p1"}, Floor: 9}, api.ErrUnknown},
		{Edit{Drop: []string{"d3", "d3"}, Floor: 9}, api.ErrUnknown},
		{Edit{Drop: []string{"d3", ""}, Floor: 9}, api.ErrUnknown},
		{Edit{Add: []api.Ref{full("", 9)}, Floor: 9}, api.ErrArgument},
		{Edit{Add: []api.Ref{{Name: "x", Kind: 3}}, Floor: 9}, api.ErrArgument},
		{Edit{Add: []api.Ref{{Name: "x", To: 3}}, Floor: 9}, api.ErrArgument},
		{Edit{Add: []api.Ref{full("f1", 8)}, Floor: 9}, api.ErrExist},
		{Edit{Add: []api.Ref{full("x", 8), full("x", 8)}, Floor: 9}, api.ErrExist},
		{Edit{Floor: 8}, api.ErrOrder},
		{Edit{Floor: -1}, api.ErrOrder},
		{Edit{Floor: million + 1}, api.ErrOrder},
		{Edit{Drop: []string{"d3"}}, api.ErrOrder},
	} {
		wantError(t, sets[6], x.e, x.want)
		wrong, _ := journal(x.e)
		wantCorrupt(t, "not possible", slices.Concat(b, wrong))
		wantCorrupt(t, "not possible", slices.Concat(b, wrong, more))
		wantCorrupt(t, "not possible", slices.Concat(b, wrong, wrong[:9]))
		wantList(t, slices.Concat(b, wrong[:len(wrong)-1]), sets[6], len(b))
	}
	for _, e := range []Edit{{Drop: []string{"a"}}, {Add: []api.Ref{{}}}, {Add: []api.Ref{full("a", 1), full("a", 1)}}, {Floor: -1}} {
		first, _ := journal(e)
		wantCorrupt(t, "not possible", first)
		wantCorrupt(t, "not possible", slices.Concat(first, b))
	}
	wantCorrupt(t, "the same edits again", slices.Concat(b, b))
}

// A name that is gone may come again.
func TestReplayOfOneNameAgainAndAgain(t *testing.T) {
	all := []Edit{{Add: []api.Ref{part("p", 0, 0)}}}
	for n := range 3000 {
		all = append(all, Edit{Add: []api.Ref{part("p", 0, n), full(fmt.Sprint("f", n), n)}, Drop: []string{"p"}, Floor: n})
		if n > 0 {
			all[n+1].Drop = append(all[n+1].Drop, fmt.Sprint("f", n-1))
		}
	}
	b, ends := journal(all...)
	wantList(t, b, Set{[]api.Ref{full("f2999", 2999), part("p", 0, 2999)}, 2999}, len(b))
	wantList(t, b[:len(b)-1], Set{[]api.Ref{full("f2998", 2998), part("p", 0, 2998)}, 2998}, ends[3000])
}

func TestReplayOfManyFiles(t *testing.T) {
	var all []Edit
	var want Set
	for n := range 500 {
		r := part(fmt.Sprintf("p%03d", n), n, n)
		all = append(all, Edit{Add: []api.Ref{r}, Floor: n})
		want = Set{append(want.Refs, r), n}
	}
	b, _ := journal(all...)
	wantList(t, b, want, len(b))
	wantCorrupt(t, "a name that is there", slices.Concat(b, slowFrame(slowBytes(Edit{Add: want.Refs[:1], Floor: 499}))))
}

// editOf is an edit whose encoding has so many bytes, and the list it makes of none.
func editOf(t *testing.T, n int) (Edit, Set) {
	t.Helper()
	e := Edit{Floor: 1}
	// A file takes 25 bytes and its name. What is left for the last three is what their names can make up for, of 1 to 16 bytes each.
	for k := 0; n-len(slowBytes(e)) >= 3*(25+1)+25+16; k++ {
		e.Add = append(e.Add, part(fmt.Sprintf("name of sixt %03d", k), k, k))
	}
	left := n - len(slowBytes(e)) - 3*25
	for more := 2; more >= 0; more-- {
		size := min(16, left-more)
		e.Add = append(e.Add, full(strings.Repeat(string(rune('z'-more)), size), 1))
		left -= size
	}
	if len(slowBytes(e)) != n {
		t.Fatalf("%d bytes, not %d", len(slowBytes(e)), n)
	}
	return e, Set{e.Add, 1}
}

func TestReplayOfLongFrames(t *testing.T) {
	for n := 16380; n <= 16384; n++ {
		e, want := editOf(t, n)
		b, _ := journal(e)
		wantList(t, b, want, n+9)
		wantCorrupt(t, "twice", slices.Concat(b, b))
	}
	for n := 16385; n <= 16390; n++ {
		e, _ := editOf(t, n)
		b, _ := journal(e)
		wantList(t, b, Set{}, 0)
	}
}

func TestReplayKeepsNothing(t *testing.T) {
	b, ends := journal(steps...)
	room := bytes.Clone(b)
	for n := range sets {
		wantList(t, b[:ends[n]], sets[n], ends[n])
	}
	wantBytes(t, "the room behind", b, room)
	got, _, _ := Replay(b)
	again, _, _ := Replay(b)
	clear(b)
	clear(again.Refs[:cap(again.Refs)])
	if !sameSet(got, sets[6]) {
		t.Errorf("%#v", got)
	}
}
