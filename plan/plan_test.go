package plan

import (
	"math"
	"slices"
	"strconv"
	"strings"
	"testing"

	"tephra/api"
	"tephra/edits"
)

// million is the greatest index, as the document writes it.
const million = 1 << 20

// numbers are ordinary ones, those at the edges, and wrong ones.
var numbers = []int{math.MinInt, math.MinInt + 1, -1 << 32, -million, -2, -1, 0, 1, 2, 7, 255, 256, million - 1, million, million + 1, 1 << 32, 1<<32 + 1, math.MaxInt - 1, math.MaxInt}

// full, change and part are files of the three kinds, by their names.
func full(name string, at int) api.Ref {
	return api.Ref{Name: name, Kind: api.Full, From: at, To: at}
}

func change(name string, from, to int) api.Ref {
	return api.Ref{Name: name, Kind: api.Delta, From: from, To: to}
}

func part(name string, from, to int) api.Ref {
	return api.Ref{Name: name, Kind: api.Part, From: from, To: to}
}

// list is one from whose floor each index on may be asked for.
func list(refs ...api.Ref) edits.Set {
	return edits.Set{Refs: refs}
}

func from(floor int, refs ...api.Ref) edits.Set {
	return edits.Set{Refs: refs, Floor: floor}
}

// both is a list the other way round, for the order of a list matters only among files that are alike.
func both(s edits.Set) []edits.Set {
	turned := copySet(s)
	slices.Reverse(turned.Refs)
	return []edits.Set{s, turned}
}

func names(refs []api.Ref) string {
	var all []string
	for _, r := range refs {
		all = append(all, r.Name)
	}
	return strings.Join(all, " ")
}

// told is a plan by its files' names: the full file, the deltas, and the parts.
func told(p Plan, wrong api.Errno) string {
	name := ""
	if p.Full != nil {
		name = p.Full.Name
	}
	s := name + "|" + names(p.Deltas) + "|" + names(p.Parts)
	if wrong != 0 {
		s += " error " + strconv.Itoa(int(wrong))
	}
	return s
}

func wantPlan(t *testing.T, s edits.Set, last, index int, want string) {
	t.Helper()
	if p, wrong := holdOf(t, s, last, index); told(p, wrong) != want {
		t.Fatalf("%d of %#v up to %d: %s, not %s", index, s, last, told(p, wrong), want)
	}
}

// wantRetained fails unless there is no plan, and nothing in it.
func wantRetained(t *testing.T, s edits.Set, last, index int) {
	t.Helper()
	p, wrong := holdOf(t, s, last, index)
	if p.Full != nil || len(p.Deltas) != 0 || len(p.Parts) != 0 || wrong != api.ErrRetained {
		t.Fatalf("%d of %#v up to %d: %s", index, s, last, told(p, wrong))
	}
}

// wantUnneeded takes the names with a blank between.
func wantUnneeded(t *testing.T, s edits.Set, floor int, want string) {
	t.Helper()
	if got := strings.Join(holdUnneeded(t, s, floor), " "); got != want {
		t.Fatalf("%#v from %d on: %s, not %s", s, floor, got, want)
	}
}

func wantPair(t *testing.T, s edits.Set, first, second string) {
	t.Helper()
	a, b, ok := holdPair(t, s)
	if a.Name != first || b.Name != second || !ok {
		t.Fatalf("%#v: %#v, %#v, %v, not %s, %s", s, a, b, ok, first, second)
	}
}

func wantNoPair(t *testing.T, s edits.Set) {
	t.Helper()
	if a, b, ok := holdPair(t, s); ok || a != (api.Ref{}) || b != (api.Ref{}) {
		t.Fatalf("%#v: %#v, %#v, %v", s, a, b, ok)
	}
}

// some is a list with files of each kind, from which the tests go out.
func some() edits.Set {
	return from(2,
		change("d1", 3, 5), change("d2", 5, 9), change("d3", 9, 12),
		full("f1", 3), full("f2", 10),
		part("p1", 0, 8), part("p2", 8, 8))
}

// P11.1

func TestConstantsAreThoseOfTheDocument(t *testing.T) {
	if api.Full != 0 || api.Delta != 1 || api.Part != 2 || api.ErrRetained != 9 {
		t.Error("the promises name other numbers")
	}
}

func TestOfTheExample(t *testing.T) {
	s := list(full("f", 3), change("d", 3, 5), part("p", 0, 5))
	wantPlan(t, s, 6, 6, "f|d|p")
	wantPlan(t, s, 6, 5, "f|d|")
	wantPlan(t, s, 6, 4, "f||p")
	wantPlan(t, s, 6, 3, "f||")
	wantPlan(t, s, 6, 2, "||p")
	wantPlan(t, s, 6, 0, "||")
}

func TestOfOrdinaryIndices(t *testing.T) {
	for _, s := range both(some()) {
		for index, want := range map[int]string{
			2: "||p1", 3: "f1||", 4: "f1||p1", 5: "f1|d1|", 6: "f1|d1|p1", 8: "f1|d1|p1",
			9: "f1|d1 d2|", 10: "f2||", 11: "f2||p2", 12: "f2||p2", 13: "f2||p2",
		} {
			wantPlan(t, s, 13, index, want)
		}
		wantRetained(t, s, 13, 1)
		wantRetained(t, s, 13, 14)
	}
}

// A plan has its files whole, not only their names.
func TestOfTellsFilesWhole(t *testing.T) {
	p, wrong := Of(from(0, full("f", 3), change("d", 3, 5), part("p", 4, 6), part("q", 6, 6)), 9, 8)
	if wrong != 0 || p.Full == nil || *p.Full != full("f", 3) {
		t.Error(told(p, wrong))
	}
	if !slices.Equal(p.Deltas, []api.Ref{change("d", 3, 5)}) || !slices.Equal(p.Parts, []api.Ref{part("p", 4, 6), part("q", 6, 6)}) {
		t.Errorf("%#v", p)
	}
}

func TestOfAnEmptyList(t *testing.T) {
	for _, s := range []edits.Set{{}, {Refs: []api.Ref{}}} {
		wantPlan(t, s, 0, 0, "||")
		wantPlan(t, s, 9, 0, "||")
		wantRetained(t, s, 9, 1)
		wantRetained(t, s, 9, 9)
		wantRetained(t, s, 9, 10)
		wantRetained(t, s, 9, -1)
		wantRetained(t, s, -1, 0)
		wantRetained(t, s, -1, -1)
	}
	wantRetained(t, from(1), 9, 0)
	wantPlan(t, from(-5), -1, -1, "||")
}

func TestOfTheFloorAndTheLastIndex(t *testing.T) {
	for _, floor := range []int{0, 1, 3, 4, 6} {
		for _, last := range []int{0, 3, 5, 6, 8} {
			s := from(floor, full("f", 3), part("p", 0, 6))
			for index := -2; index < 11; index++ {
				switch {
				case index < floor || index > last:
					wantRetained(t, s, last, index)
				case index == 0:
					wantPlan(t, s, last, index, "||")
				case index < 3:
					wantPlan(t, s, last, index, "||p")
				case index == 3:
					wantPlan(t, s, last, index, "f||")
				default:
					wantPlan(t, s, last, index, "f||p")
				}
			}
		}
	}
}

// Neither the floor nor the last index can be made up for by files that go there.
func TestOfAnIndexThatIsNotRetainedAlthoughThereIsAWay(t *testing.T) {
	s := from(5, full("f", 4), change("d", 4, 9), full("g", 9), part("p", 0, 12))
	wantRetained(t, s, 8, 4)
	wantRetained(t, s, 8, 0)
	wantRetained(t, s, 8, 9)
	wantRetained(t, s, 8, 12)
	wantRetained(t, s, 4, 5)
	wantRetained(t, s, 4, 4)
	wantPlan(t, s, 8, 5, "f||p")
	wantPlan(t, s, 8, 8, "f||p")
}

func TestOfFullFiles(t *testing.T) {
	p := part("p", 0, 20)
	wantPlan(t, list(p), 20, 7, "||p")
	wantPlan(t, list(full("a", 7), p), 20, 7, "a||")
	wantPlan(t, list(full("a", 8), p), 20, 7, "||p")
	wantPlan(t, list(full("a", 6), p), 20, 7, "a||p")
	for _, s := range both(list(full("a", 2), full("b", 5), full("c", 7), full("d", 9), p)) {
		wantPlan(t, s, 20, 1, "||p")
		wantPlan(t, s, 20, 2, "a||")
		wantPlan(t, s, 20, 4, "a||p")
		wantPlan(t, s, 20, 5, "b||")
		wantPlan(t, s, 20, 6, "b||p")
		wantPlan(t, s, 20, 7, "c||")
		wantPlan(t, s, 20, 8, "c||p")
		wantPlan(t, s, 20, 9, "d||")
		wantPlan(t, s, 20, 20, "d||p")
	}
	wantPlan(t, list(full("a", 0)), 0, 0, "a||")
	wantPlan(t, list(full("a", million)), million, million, "a||")
	wantRetained(t, list(full("a", million)), million, million-1)
}

// Of full files that are alike the last one of the list is the last.
func TestOfFullFilesOfOneIndex(t *testing.T) {
	wantPlan(t, list(full("a", 5), full("b", 5)), 9, 5, "b||")
	wantPlan(t, list(full("b", 5), full("a", 5)), 9, 5, "a||")
	wantPlan(t, list(full("c", 5), full("a", 4), full("b", 5), full("x", 4), full("d", 9)), 9, 5, "b||")
	wantPlan(t, list(full("c", 5), full("a", 4), full("b", 5), full("x", 4), full("d", 9)), 9, 4, "x||")
	wantPlan(t, list(full("", 5), full("a", 5), full("", 5)), 9, 5, "||")
}

// The last full file is taken, even if only an earlier one has a way to the index.
func TestOfAFullFileWithoutAWayBehindIt(t *testing.T) {
	s := list(full("a", 3), full("b", 4), change("d", 3, 8))
	wantRetained(t, s, 9, 8)
	wantRetained(t, s, 9, 5)
	s.Refs = append(s.Refs[:1:1], s.Refs[2])
	wantPlan(t, s, 9, 8, "a|d|")
	wantRetained(t, list(full("a", 3), full("b", 4), part("p", 5, 9)), 9, 8)
}

// Only a full file whose From is not its To, which may not be listed, shows that the order is by From first.
func TestOfFullFilesThatMayNotBeListed(t *testing.T) {
	a, b := api.Ref{Name: "a", From: 1, To: 9}, api.Ref{Name: "b", From: 2, To: 4}
	for _, s := range both(list(a, b)) {
		wantPlan(t, s, 9, 4, "b||")
		wantRetained(t, s, 9, 9)
	}
	for _, s := range both(list(api.Ref{Name: "a", From: 1, To: 4}, api.Ref{Name: "b", From: 1, To: 5})) {
		wantPlan(t, s, 9, 5, "b||")
		wantPlan(t, s, 9, 4, "a||")
	}
	wantPlan(t, from(-9, full("a", -4), change("d", -4, -2)), 9, -2, "a|d|")
	wantRetained(t, from(-9, full("a", -4), change("d", -4, -2)), 9, -1)
	wantPlan(t, from(-9, full("a", -4), change("d", -4, -2), part("p", -3, 0)), 9, -1, "a|d|p")
}

func TestOfOneDelta(t *testing.T) {
	f := full("f", 3)
	for _, s := range both(list(f, change("d", 3, 5), part("p", 0, 9))) {
		wantPlan(t, s, 9, 4, "f||p")
		wantPlan(t, s, 9, 5, "f|d|")
		wantPlan(t, s, 9, 6, "f|d|p")
		wantPlan(t, s, 9, 3, "f||")
		wantPlan(t, s, 9, 2, "||p")
	}
	wantRetained(t, list(f, change("d", 3, 5)), 9, 4)
	wantRetained(t, list(f, change("d", 3, 5)), 9, 6)
	wantPlan(t, list(change("d", 0, 5)), 9, 5, "|d|")
	wantPlan(t, list(change("d", 0, million)), million, million, "|d|")
	wantRetained(t, list(change("d", 0, 5)), 9, 4)
}

// A delta begins where the position is, neither ahead of it nor behind.
func TestOfADeltaThatBeginsElsewhere(t *testing.T) {
	for _, d := range []api.Ref{change("d", 2, 5), change("d", 4, 5), change("d", 0, 5), change("d", 5, 5), change("d", 3, 3), change("d", 3, 2), change("d", 3, 0)} {
		wantRetained(t, list(full("f", 3), d), 9, 5)
		wantPlan(t, list(full("f", 3), d, part("p", 0, 5)), 9, 5, "f||p")
	}
	wantRetained(t, list(change("d", 1, 5)), 9, 5)
	wantRetained(t, list(change("d", -1, 5)), 9, 5)
	wantPlan(t, list(change("d", 0, 0)), 9, 0, "||")
	wantPlan(t, list(full("f", 3), change("d", 3, 3)), 9, 3, "f||")
}

// The first delta of several is the one that goes least far, and of those that go as far, the first of the list.
func TestOfSeveralDeltasFromOnePosition(t *testing.T) {
	for _, s := range both(list(change("a", 0, 0), change("b", 0, 2), change("c", 0, 4), change("d", 0, 6), change("e", 2, 3), change("f", 4, 6))) {
		wantPlan(t, s, 9, 0, "||")
		wantRetained(t, s, 9, 1)
		wantPlan(t, s, 9, 2, "|b|")
		wantPlan(t, s, 9, 3, "|b e|")
		wantRetained(t, s, 9, 4)
		wantRetained(t, s, 9, 6)
	}
	wantPlan(t, list(change("d", 0, 6), change("c", 0, 4), part("p", 0, 9)), 9, 6, "|c|p")
	wantPlan(t, list(change("b", 0, 4), change("a", 0, 4)), 9, 4, "|b|")
	wantPlan(t, list(change("a", 0, 4), change("b", 0, 4)), 9, 4, "|a|")
	wantPlan(t, list(change("x", 0, 5), change("a", 0, 4), change("b", 0, 4), change("c", 4, 5), change("b", 4, 5)), 9, 5, "|a c|")
}

func TestOfDeltasBehindOneAnother(t *testing.T) {
	for _, s := range both(list(full("f", 2), change("a", 2, 3), change("b", 3, 6), change("c", 6, 10), part("p", 0, 11))) {
		for index, want := range []string{"||", "||p", "f||", "f|a|", "f|a|p", "f|a|p", "f|a b|", "f|a b|p", "f|a b|p", "f|a b|p", "f|a b c|", "f|a b c|p"} {
			wantPlan(t, s, 11, index, want)
		}
	}
	for _, s := range both(list(change("x", 1, 2), change("a", 0, 3), change("y", 2, 4), change("z", 3, 3), change("b", 3, 6), change("c", 7, 9))) {
		wantPlan(t, s, 9, 6, "|a b|")
		wantPlan(t, s, 9, 3, "|a|")
		wantRetained(t, s, 9, 9)
		wantRetained(t, s, 9, 7)
	}
}

// A delta that ends where it begins, or ahead of that, does not go on, and does not go round.
func TestOfDeltasThatDoNotGoOn(t *testing.T) {
	for _, s := range both(list(full("f", 3), change("a", 3, 3), change("b", 3, 1), change("c", 1, 3), change("d", 3, 4), change("e", 4, 3), change("g", 4, 4))) {
		wantPlan(t, s, 9, 3, "f||")
		wantPlan(t, s, 9, 4, "f|d|")
		wantRetained(t, s, 9, 5)
	}
}

func TestOfOnePart(t *testing.T) {
	f := full("f", 3)
	for _, s := range both(list(f, part("p", 3, 5))) {
		wantPlan(t, s, 5, 3, "f||")
		wantPlan(t, s, 5, 4, "f||p")
		wantPlan(t, s, 5, 5, "f||p")
		wantRetained(t, s, 5, 6)
		wantRetained(t, s, 5, 2)
	}
	wantPlan(t, list(f, part("p", 2, 5)), 5, 5, "f||p")
	wantPlan(t, list(f, part("p", 0, 5)), 5, 5, "f||p")
	wantPlan(t, list(f, part("p", -9, 5)), 5, 5, "f||p")
	wantRetained(t, list(f, part("p", 4, 5)), 5, 5)
	wantRetained(t, list(f, part("p", 5, 5)), 5, 5)
	wantRetained(t, list(f, part("p", 6, 5)), 5, 5)
	wantRetained(t, list(f, part("p", 4, 4)), 5, 4)
}

// A part that ends at the position, or ahead of it, is left out.
func TestOfPartsThatEndAtThePosition(t *testing.T) {
	for _, s := range both(list(full("f", 4), part("a", 0, 2), part("b", 2, 4), part("c", 4, 4), part("d", 4, 6), part("e", 6, 8))) {
		wantPlan(t, s, 8, 4, "f||")
		wantPlan(t, s, 8, 5, "f||d")
		wantPlan(t, s, 8, 6, "f||d")
		wantPlan(t, s, 8, 7, "f||d e")
		wantPlan(t, s, 8, 8, "f||d e")
		wantPlan(t, s, 8, 2, "||a")
		wantPlan(t, s, 8, 3, "||a b")
	}
	for _, s := range both(list(full("f", 4), part("a", 2, 5), part("e", 5, 8))) {
		wantPlan(t, s, 8, 5, "f||a")
		wantPlan(t, s, 8, 6, "f||a e")
	}
	wantRetained(t, list(full("f", 4), part("a", 0, 4)), 4, 5)
	wantPlan(t, list(full("f", 4), part("a", 0, 4)), 4, 4, "f||")
}

// A part behind the index is left out, although it goes on.
func TestOfPartsThatAreNotNeededAnyMore(t *testing.T) {
	for _, s := range both(list(part("a", 0, 4), part("b", 4, 8), part("c", 8, 9))) {
		for index, want := range []string{"||", "||a", "||a", "||a", "||a", "||a b", "||a b", "||a b", "||a b", "||a b c"} {
			wantPlan(t, s, 9, index, want)
		}
	}
	for _, s := range both(list(change("d", 0, 4), part("a", 0, 6), part("b", 2, 8))) {
		wantPlan(t, s, 9, 4, "|d|")
		wantPlan(t, s, 9, 5, "|d|a")
		wantPlan(t, s, 9, 6, "|d|a")
		wantPlan(t, s, 9, 7, "|d|a b")
	}
}

// Parts that overlap are taken in their order, also where a later one would go further.
func TestOfPartsThatOverlap(t *testing.T) {
	for _, s := range both(list(part("a", 0, 3), part("b", 1, 2), part("c", 1, 5), part("d", 2, 4), part("e", 2, 9))) {
		wantPlan(t, s, 9, 3, "||a")
		wantPlan(t, s, 9, 4, "||a c")
		wantPlan(t, s, 9, 5, "||a c")
		wantPlan(t, s, 9, 6, "||a c e")
	}
	for _, s := range both(list(part("a", 0, 2), part("b", 0, 5), part("c", 0, 7), part("z", 9, 9))) {
		wantPlan(t, s, 7, 2, "||a")
		wantPlan(t, s, 7, 3, "||a b")
		wantPlan(t, s, 7, 6, "||a b c")
	}
}

func TestOfTheLastPart(t *testing.T) {
	for _, s := range both(list(part("a", 0, 4), part("b", 4, 6))) {
		wantPlan(t, s, 9, 9, "||a b")
		wantPlan(t, s, 9, 7, "||a b")
		wantPlan(t, s, 9, 6, "||a b")
		wantPlan(t, s, 9, 4, "||a")
		wantPlan(t, s, 6, 6, "||a b")
		wantPlan(t, s, 5, 5, "||a b")
		wantRetained(t, s, 5, 6)
		wantRetained(t, s, 6, 7)
	}
	wantPlan(t, list(part("a", 0, 0)), 9, 9, "||a")
	wantPlan(t, list(part("a", 0, 0)), 9, 0, "||")
	wantRetained(t, list(part("a", 0, 0)), 0, 1)
	wantPlan(t, list(part("a", 0, 0)), math.MaxInt, math.MaxInt, "||a")
	wantRetained(t, list(part("a", 0, 4), part("b", 5, 5)), 9, 5)
	wantRetained(t, list(part("a", 0, 4), part("b", 5, 5)), 9, 9)
	wantPlan(t, list(full("f", 5), part("a", 0, 4), part("b", 5, 5)), 9, 9, "f||b")
}

// Only the last part goes further than it is listed, even if it is no help, and another ends as far.
func TestOfAPartThatIsNotTheLast(t *testing.T) {
	for _, s := range both(list(part("a", 0, 4), part("b", 3, 3))) {
		wantPlan(t, s, 9, 4, "||a")
		wantPlan(t, s, 9, 5, "||a b")
	}
	for _, s := range both(list(part("a", 0, 4), part("b", 7, 7))) {
		wantPlan(t, s, 9, 4, "||a")
		wantRetained(t, s, 9, 5)
		wantRetained(t, s, 9, 7)
		wantRetained(t, s, 9, 9)
	}
	for _, s := range both(list(part("a", 0, 4), change("b", 7, 7), full("c", 8))) {
		wantPlan(t, s, 7, 6, "||a")
		wantPlan(t, s, 9, 9, "c||a")
	}
}

// Of parts that are alike, the one that stands last in the list is the last.
func TestOfPartsThatAreAlike(t *testing.T) {
	wantPlan(t, list(part("a", 0, 4), part("b", 0, 4)), 9, 4, "||a")
	wantPlan(t, list(part("a", 0, 4), part("b", 0, 4)), 9, 5, "||a b")
	wantPlan(t, list(part("b", 0, 4), part("a", 0, 4)), 9, 4, "||b")
	wantPlan(t, list(part("b", 0, 4), part("a", 0, 4)), 9, 5, "||b a")
	wantPlan(t, list(part("b", 0, 0), part("a", 0, 0)), 9, 5, "||a")
	wantPlan(t, list(part("a", 0, 0), part("b", 0, 0)), 9, 5, "||b")
	wantPlan(t, list(part("x", 0, 0), part("a", 0, 4), part("x", 0, 0), part("b", 0, 4), part("x", 0, 0)), 9, 6, "||a b")
	wantPlan(t, list(part("p", 0, 4), part("p", 0, 4)), 9, 4, "||p")
	wantPlan(t, list(part("p", 0, 4), part("p", 0, 4)), 9, 5, "||p p")
	wantPlan(t, list(part("p", 0, 0), part("p", 0, 0)), 9, 5, "||p")
}

func TestOfPartsBetweenWhichEntriesAreMissing(t *testing.T) {
	for _, s := range both(list(part("a", 0, 3), part("b", 4, 6), part("c", 6, 8))) {
		wantPlan(t, s, 8, 3, "||a")
		for index := 4; index < 10; index++ {
			wantRetained(t, s, 8, index)
		}
	}
	for _, s := range both(list(part("a", 0, 3), part("b", 4, 6), full("f", 4), full("g", 3))) {
		wantPlan(t, s, 8, 3, "g||")
		wantPlan(t, s, 8, 4, "f||")
		wantPlan(t, s, 8, 5, "f||b")
	}
	for _, s := range both(list(part("a", 0, 3), change("d", 0, 4), part("b", 4, 6))) {
		wantPlan(t, s, 6, 3, "||a")
		wantPlan(t, s, 6, 6, "|d|b")
	}
}

// Entries do not lead to a delta: deltas stand ahead of all parts.
func TestOfADeltaBehindAPart(t *testing.T) {
	wantRetained(t, list(part("a", 0, 3), change("d", 3, 6), part("z", 6, 6)), 6, 6)
	wantPlan(t, list(part("a", 0, 3), change("d", 3, 6)), 6, 6, "||a")
}

// An index that is reached already needs no parts, and one that a full file overshoots has none of it.
func TestOfAPositionThatStaysLess(t *testing.T) {
	for _, s := range []edits.Set{
		list(full("f", 3)),
		list(full("f", 3), change("d", 3, 5)),
		list(full("f", 3), change("d", 3, 5), change("e", 5, 9)),
		list(full("f", 3), full("g", 9)),
		list(full("f", 3), part("p", 4, 9)),
		list(full("f", 3), change("d", 3, 5), part("p", 3, 6), part("q", 7, 9), full("g", 9)),
	} {
		for _, u := range both(s) {
			wantRetained(t, u, 9, 7)
		}
	}
}

// Files of a kind that is none are in no plan.
func TestOfKindsThatAreNone(t *testing.T) {
	for _, kind := range append(numbers, 3, 4) {
		if kind >= 0 && kind <= 2 {
			continue
		}
		s := list(part("p", 0, 2), api.Ref{Name: "a", Kind: api.Kind(kind), From: 4, To: 4}, api.Ref{Name: "b", Kind: api.Kind(kind), To: 4})
		wantPlan(t, s, 5, 4, "||p")
		wantPlan(t, s, 5, 5, "||p")
		wantRetained(t, list(s.Refs[1:]...), 5, 4)
	}
}

func TestOfNumbersOfAnyKind(t *testing.T) {
	for _, a := range numbers {
		for _, b := range numbers {
			s := from(a, full("f", b), change("d", b, a), change("e", a, b), part("p", a, b), part("q", b, a))
			for _, last := range numbers {
				for _, index := range numbers {
					holdOf(t, s, last, index)
				}
			}
		}
	}
}

// A plan is of new memory: what is done to it changes neither the list, nor a part of itself, nor another plan.
func TestAPlanSharesNothing(t *testing.T) {
	s := some()
	before := copySet(s)
	s.Refs = append(s.Refs, part("p3", 20, 20))[:len(s.Refs)]
	p, _ := Of(s, 13, 8)
	q, _ := Of(s, 13, 8)
	if told(p, 0) != "f1|d1|p1" {
		t.Fatal(told(p, 0))
	}
	*p.Full = api.Ref{Name: "x", Kind: api.Part, From: -1, To: -1}
	p.Deltas[0].Name, p.Parts[0].Name = "y", "z"
	p.Deltas = append(p.Deltas, api.Ref{Name: "u"}, api.Ref{Name: "v"})
	p.Parts = append(p.Parts, api.Ref{Name: "w"})
	if !sameSet(s, before) || s.Refs[:8][7] != part("p3", 20, 20) {
		t.Errorf("the list was changed: %#v", s)
	}
	if told(p, 0) != "x|y u v|z w" || told(q, 0) != "f1|d1|p1" {
		t.Error("plans share memory:", told(p, 0), told(q, 0))
	}
	r, _ := Of(s, 13, 8)
	for i := range s.Refs {
		s.Refs[i] = api.Ref{}
	}
	if told(r, 0) != "f1|d1|p1" || *r.Full != full("f1", 3) {
		t.Error("a plan has the list:", told(r, 0))
	}
}

// P11.2

func TestUnneededOfTheExample(t *testing.T) {
	s := some()
	for floor := -3; floor < 10; floor++ {
		wantUnneeded(t, s, floor, "")
	}
	for floor := 10; floor < 20; floor++ {
		wantUnneeded(t, s, floor, "d1 d2 f1 p1")
	}
	slices.Reverse(s.Refs)
	wantUnneeded(t, s, 10, "p1 f1 d2 d1")
}

// The Floor of the list is no matter.
func TestUnneededGoesByItsArgument(t *testing.T) {
	for _, floor := range numbers {
		s := some()
		s.Floor = floor
		wantUnneeded(t, s, 9, "")
		wantUnneeded(t, s, 10, "d1 d2 f1 p1")
	}
}

func TestUnneededOfNoFullFile(t *testing.T) {
	for _, floor := range numbers {
		wantUnneeded(t, edits.Set{}, floor, "")
		wantUnneeded(t, edits.Set{Refs: []api.Ref{}, Floor: 3}, floor, "")
		wantUnneeded(t, list(change("a", 0, 3), change("b", 0, 0), part("p", 0, 0), part("q", 0, 3), part("r", 3, 3)), floor, "")
	}
}

func TestUnneededFullFiles(t *testing.T) {
	s := list(full("a", 2), full("b", 5), full("c", 0), full("d", 5), full("e", 7), full("f", 2))
	wantUnneeded(t, s, -1, "")
	wantUnneeded(t, s, 0, "")
	wantUnneeded(t, s, 1, "")
	wantUnneeded(t, s, 2, "c")
	wantUnneeded(t, s, 4, "c")
	wantUnneeded(t, s, 5, "a c f")
	wantUnneeded(t, s, 6, "a c f")
	wantUnneeded(t, s, 7, "a b c d f")
	wantUnneeded(t, s, million, "a b c d f")
	wantUnneeded(t, s, math.MaxInt, "a b c d f")
	wantUnneeded(t, list(full("a", 5)), 5, "")
	wantUnneeded(t, list(full("a", 5)), 9, "")
	wantUnneeded(t, list(full("a", 5)), 4, "")
	wantUnneeded(t, list(full("a", 5), full("b", 5)), 9, "")
	wantUnneeded(t, list(full("a", million), full("b", million-1)), million-1, "")
	wantUnneeded(t, list(full("a", million), full("b", million-1)), million, "b")
}

// wantGone fails unless a file is named, or not, beside a full file at 5 that is the base.
func wantGone(t *testing.T, r api.Ref, gone bool) {
	t.Helper()
	want := ""
	if gone {
		want = r.Name
	}
	for _, s := range both(list(r, full("base", 5), full("later", 9), part("z", million, million))) {
		for floor := 5; floor < 9; floor++ {
			wantUnneeded(t, s, floor, want)
		}
	}
}

// A full file is named by its To; another one, if it begins ahead of the base and ends there at the latest.
func TestUnneededFilesAroundTheBase(t *testing.T) {
	for from := range 9 {
		for to := from; to < 9; to++ {
			wantGone(t, change("a", from, to), from < 5 && to <= 5)
			wantGone(t, part("a", from, to), from < 5 && to <= 5)
			wantGone(t, api.Ref{Name: "a", Kind: 7, From: from, To: to}, from < 5 && to <= 5)
			wantGone(t, api.Ref{Name: "a", Kind: -1, From: from, To: to}, from < 5 && to <= 5)
		}
	}
	for at := range 6 {
		wantGone(t, full("a", at), at < 5)
		wantGone(t, api.Ref{Name: "a", Kind: api.Full, From: 9, To: at}, at < 5)
	}
	wantGone(t, change("a", 4, 5), true)
	wantGone(t, change("a", 5, 5), false)
	wantGone(t, change("a", 4, 6), false)
	wantGone(t, change("a", 4, 4), true)
	wantGone(t, part("a", 4, 5), true)
	wantGone(t, part("a", 5, 5), false)
	wantGone(t, part("a", 4, 6), false)
	wantGone(t, part("a", 4, 4), true)
	wantGone(t, change("a", 6, 4), false)
	wantGone(t, part("a", 6, 4), false)
	wantGone(t, change("", 4, 5), true)
}

// The last part is never named, and it is the same file that is, if another is behind it.
func TestUnneededOfTheLastPart(t *testing.T) {
	f := full("f", 5)
	for _, s := range both(list(f, part("a", 0, 4))) {
		wantUnneeded(t, s, 5, "")
		wantUnneeded(t, s, million, "")
	}
	wantUnneeded(t, list(f, part("a", 0, 4), part("b", 4, 4)), 5, "a")
	wantUnneeded(t, list(part("b", 4, 4), f, part("a", 0, 4)), 5, "a")
	wantUnneeded(t, list(f, part("a", 0, 4), part("b", 0, 3)), 5, "b")
	wantUnneeded(t, list(f, part("a", 0, 3), part("b", 0, 4)), 5, "a")
	wantUnneeded(t, list(f, part("a", 0, 4), part("b", 1, 1)), 5, "a")
	wantUnneeded(t, list(f, part("a", 0, 4), part("b", 9, 9)), 5, "a")
	wantUnneeded(t, list(f, part("a", 0, 4), change("b", 4, 4)), 5, "b")
	wantUnneeded(t, list(f, part("a", 0, 4), full("b", 4)), 5, "b")
	wantUnneeded(t, list(f, part("a", 0, 4), api.Ref{Name: "b", Kind: 3, From: 4, To: 4}), 5, "b")
}

// Of parts that are alike all but the one that stands last in the list are named, be their names one.
func TestUnneededOfPartsThatAreAlike(t *testing.T) {
	f := full("f", 5)
	wantUnneeded(t, list(f, part("a", 0, 4), part("b", 0, 4)), 5, "a")
	wantUnneeded(t, list(f, part("b", 0, 4), part("a", 0, 4)), 5, "b")
	wantUnneeded(t, list(part("c", 0, 4), part("b", 0, 4), f, part("a", 0, 4), part("x", 0, 2)), 5, "c b x")
	wantUnneeded(t, list(part("p", 0, 4), f, part("p", 0, 4), part("p", 0, 4)), 5, "p p")
	wantUnneeded(t, list(change("p", 0, 4), f, part("p", 0, 4), full("p", 4)), 5, "p p")
}

// The base is of a full file that is there, also where it is below -1, and -1 only without one.
func TestUnneededBelowZero(t *testing.T) {
	s := list(full("a", -7), full("b", -4), change("c", -8, -7), change("d", -6, -3), change("e", -3, -2), full("f", -2), part("g", -9, -9), part("h", -8, -8))
	wantUnneeded(t, s, -8, "a b c d e f g")
	wantUnneeded(t, s, -7, "c g")
	wantUnneeded(t, s, -4, "a c g")
	wantUnneeded(t, s, -2, "a b c d e g")
	wantUnneeded(t, list(change("a", -2, -1), change("b", -1, -1), change("c", -1, 0), change("d", -2, 0), full("e", 0), full("f", -1)), -2, "a")
}

func TestUnneededOfNumbersOfAnyKind(t *testing.T) {
	for _, a := range numbers {
		for _, b := range numbers {
			s := list(full("f", b), full("g", a), change("d", b, a), change("e", a, b), part("p", a, b), part("q", b, a))
			for _, floor := range numbers {
				holdUnneeded(t, s, floor)
			}
		}
	}
}

func TestUnneededIsNewMemory(t *testing.T) {
	s := some()
	before := copySet(s)
	a := Unneeded(s, 10)
	b := Unneeded(s, 10)
	a[0] = "x"
	_ = append(a, "y")
	if !sameSet(s, before) || strings.Join(b, " ") != "d1 d2 f1 p1" {
		t.Errorf("%#v, %q", s, b)
	}
}

// P11.3

func TestPairOfTheExample(t *testing.T) {
	s := some()
	wantPair(t, s, "d1", "d2")
	s.Refs = s.Refs[1:]
	wantPair(t, s, "d2", "d3")
	s.Refs = s.Refs[1:]
	wantNoPair(t, s)
	a, b, ok := Pair(some())
	if a != change("d1", 3, 5) || b != change("d2", 5, 9) || !ok {
		t.Errorf("%#v, %#v, %v", a, b, ok)
	}
}

func TestPairOfNoneAndOfOne(t *testing.T) {
	wantNoPair(t, edits.Set{})
	wantNoPair(t, edits.Set{Refs: []api.Ref{}, Floor: 3})
	wantNoPair(t, list(full("f", 3), part("p", 0, 3), part("q", 3, 6), full("g", 6)))
	wantNoPair(t, list(change("a", 0, 3)))
	wantNoPair(t, list(change("a", 3, 3)))
	wantNoPair(t, list(change("a", 3, 0)))
}

func TestPairOfTwo(t *testing.T) {
	for _, s := range both(list(change("a", 0, 3), change("b", 3, 5))) {
		wantPair(t, s, "a", "b")
	}
	for _, other := range []api.Ref{change("b", 4, 5), change("b", 2, 5), change("b", 3, 3), change("b", 0, 3), change("b", 0, 5), change("b", 3, 2), change("b", 5, 9)} {
		for _, s := range both(list(change("a", 0, 3), other)) {
			wantNoPair(t, s)
		}
	}
	for _, other := range []api.Ref{full("b", 3), part("b", 3, 5), {Name: "b", Kind: api.Full, From: 3, To: 5}, {Name: "b", Kind: 3, From: 3, To: 5}, {Name: "b", Kind: -1, From: 3, To: 5}} {
		for _, s := range both(list(change("a", 0, 3), other)) {
			wantNoPair(t, s)
		}
	}
	wantPair(t, list(change("a", 0, million-1), change("b", million-1, million)), "a", "b")
	wantNoPair(t, list(change("a", 0, 3), change("a", 0, 3)))
	wantNoPair(t, list(change("a", 3, 3), change("a", 3, 3)))
}

// A delta whose From is its To does not follow another one, but another one may follow it.
func TestPairOfADeltaOfNoEntries(t *testing.T) {
	for _, s := range both(list(change("a", 3, 3), change("b", 3, 5))) {
		wantPair(t, s, "a", "b")
	}
	for _, s := range both(list(change("a", 0, 3), change("b", 3, 3))) {
		wantNoPair(t, s)
	}
	for _, s := range both(list(change("a", 0, 3), change("b", 3, 3), change("c", 3, 5))) {
		wantPair(t, s, "a", "c")
	}
	for _, s := range both(list(change("a", 0, 0), change("b", 0, 0), change("c", 1, 1))) {
		wantNoPair(t, s)
	}
	for _, s := range both(list(change("a", 0, 2), change("b", 3, 3), change("c", 3, 4))) {
		wantPair(t, s, "b", "c")
	}
}

// Of several pairs the first delta in order is taken, and with it the first one behind it.
func TestPairOfSeveral(t *testing.T) {
	for _, s := range both(list(change("a", 0, 2), change("b", 3, 4), change("c", 4, 6), change("d", 6, 8), change("e", 4, 9))) {
		wantPair(t, s, "b", "c")
	}
	for _, s := range both(list(change("a", 0, 4), change("b", 0, 2), change("c", 2, 3), change("d", 4, 5))) {
		wantPair(t, s, "b", "c")
	}
	for _, s := range both(list(change("a", 0, 2), change("b", 0, 4), change("d", 4, 5))) {
		wantPair(t, s, "b", "d")
	}
	for _, s := range both(list(change("a", 0, 9), change("b", 1, 5), change("c", 5, 6), change("d", 9, 10))) {
		wantPair(t, s, "a", "d")
	}
	for _, s := range both(list(change("a", 0, 3), change("x", 3, 1), change("y", 3, 3), change("b", 3, 4), change("c", 3, 9))) {
		wantPair(t, s, "a", "b")
	}
}

// Deltas that are alike are taken in the order of the list.
func TestPairOfDeltasThatAreAlike(t *testing.T) {
	wantPair(t, list(change("a", 0, 3), change("b", 0, 3), change("c", 3, 5), change("d", 3, 5)), "a", "c")
	wantPair(t, list(change("d", 3, 5), change("b", 0, 3), change("c", 3, 5), change("a", 0, 3)), "b", "d")
	wantPair(t, list(change("p", 3, 5), change("p", 0, 3)), "p", "p")
}

// A delta that leads back may be the first of a pair, but is not the other.
func TestPairOfDeltasThatLeadBack(t *testing.T) {
	for _, s := range both(list(change("a", 5, 3), change("b", 3, 5))) {
		wantPair(t, s, "a", "b")
	}
	for _, s := range both(list(change("a", 5, 3), change("b", 3, 1), change("c", 0, 5))) {
		wantNoPair(t, s)
	}
	wantPair(t, list(change("a", -5, -3), change("b", -3, -2)), "a", "b")
}

func TestPairOfNumbersOfAnyKind(t *testing.T) {
	for _, a := range numbers {
		for _, b := range numbers {
			for _, c := range numbers {
				holdPair(t, list(change("a", a, b), change("b", b, c), change("c", c, a), change("d", c, c)))
				holdPair(t, list(change("a", a, b), change("b", b, c)))
			}
		}
	}
}

// many is how many files a list has that would be too many to go through once for each of them.
const many = 1 << 17

// The files come in the opposite order, so that the order of the list is no help.
func manyFiles(files func(at int) []api.Ref) edits.Set {
	var s edits.Set
	for at := many - 1; at >= 0; at-- {
		s.Refs = append(s.Refs, files(at)...)
	}
	return s
}

func TestOfManyFiles(t *testing.T) {
	s := manyFiles(func(at int) []api.Ref {
		return []api.Ref{full("f", -1-at), change("d", at, at+1), part("p", many+at, many+at+1)}
	})
	s.Refs = append(s.Refs, full("f", 0))
	p, wrong := Of(s, 3*many, 3*many)
	if wrong != 0 || p.Full == nil || *p.Full != full("f", 0) || len(p.Deltas) != many || len(p.Parts) != many {
		t.Fatal(len(p.Deltas), len(p.Parts), wrong)
	}
	for at := range many {
		if p.Deltas[at] != change("d", at, at+1) || p.Parts[at] != part("p", many+at, many+at+1) {
			t.Fatal(at, p.Deltas[at], p.Parts[at])
		}
	}
}

func TestUnneededOfManyFiles(t *testing.T) {
	s := manyFiles(func(at int) []api.Ref {
		return []api.Ref{full("f", at), change("d", at, at+1), part("p", at, at+1)}
	})
	if got := Unneeded(s, many); len(got) != 3*(many-1) {
		t.Error(len(got))
	}
	if got := Unneeded(s, many/2); len(got) != 3*(many/2) {
		t.Error(len(got))
	}
	if got := Unneeded(s, -1); len(got) != 0 {
		t.Error(len(got))
	}
}

func TestPairOfManyFiles(t *testing.T) {
	s := manyFiles(func(at int) []api.Ref {
		return []api.Ref{change("d", 2*at, 2*at+1)}
	})
	if a, b, ok := Pair(s); ok {
		t.Fatal(a, b)
	}
	s.Refs = append(s.Refs, change("x", 2*many-1, 2*many))
	if a, b, ok := Pair(s); a != change("d", 2*many-2, 2*many-1) || b.Name != "x" || !ok {
		t.Error(a, b, ok)
	}
}

// The order among files that are alike holds for many as it does for few.
func TestManyFilesThatAreAlike(t *testing.T) {
	s := manyFiles(func(at int) []api.Ref {
		name := strconv.Itoa(at)
		return []api.Ref{full("f"+name, 1+at%3), change("d"+name, 3, 4+at%3), change("e"+name, 4, 7+at%3), part("p"+name, 0, 7+at%3)}
	})
	first := func(three int) string {
		return strconv.Itoa(many - 1 - (many-1-three+3)%3)
	}
	if p, wrong := Of(s, 9, 8); told(p, wrong) != "f2|d"+first(0)+" e"+first(0)+"|p"+first(1) {
		t.Error(told(p, wrong))
	}
	if p, wrong := Of(s, 10, 10); told(p, wrong) != "f2|d"+first(0)+" e"+first(0)+"|p"+first(1)+" p"+first(2)+" p2" {
		t.Error(told(p, wrong))
	}
	if a, b, ok := Pair(s); a.Name != "d"+first(0) || b.Name != "e"+first(0) || !ok {
		t.Error(a, b, ok)
	}
	s.Refs = append(s.Refs, full("f", 9))
	if got := Unneeded(s, 9); len(got) != 4*many-1 || slices.Contains(got, "p2") || !slices.Contains(got, "p5") {
		t.Error(len(got))
	}
}
