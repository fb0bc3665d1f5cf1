package sorted

import (
	"cmp"
	"fmt"
	"iter"
	"math"
	"slices"
	"strings"
	"testing"
)

// told is what a row yields, as a text.
func told[K cmp.Ordered, V any](row iter.Seq2[K, V]) string {
	var words []string
	for k, v := range row {
		words = append(words, fmt.Sprint(k, " ", v))
	}
	return strings.Join(words, ", ")
}

// wantRow fails if a row yields something else.
func wantRow[K cmp.Ordered, V any](t *testing.T, what string, row iter.Seq2[K, V], want string) {
	t.Helper()
	if got := told(row); got != want {
		t.Errorf("%s: %q, not %q", what, got, want)
	}
}

// wantGet fails if a key has another value, or none.
func wantGet[K cmp.Ordered, V comparable](t *testing.T, m *Map[K, V], k K, want V) {
	t.Helper()
	if v, ok := m.Get(k); v != want || !ok {
		t.Errorf("%v: %v, %v, not %v", k, v, ok, want)
	}
}

// wantNone fails if a key has a value, or if something else than the zero value stands beside false.
func wantNone[K cmp.Ordered, V comparable](t *testing.T, m *Map[K, V], k K) {
	t.Helper()
	var none V
	if v, ok := m.Get(k); v != none || ok {
		t.Errorf("%v: %v, %v", k, v, ok)
	}
}

// wantEmpty fails if a map has a key.
func wantEmpty(t *testing.T, m *Map[int, string]) {
	t.Helper()
	if m.Len() != 0 {
		t.Errorf("%d keys", m.Len())
	}
	wantNone(t, m, 0)
	wantNone(t, m, 1)
	wantRow(t, "All", m.All(), "")
	wantRow(t, "From", m.From(math.MinInt), "")
	wantRow(t, "Back", m.Back(), "")
}

// letters is a map of those keys in that order, the first of which has the value a.
func letters[K cmp.Ordered](keys ...K) *Map[K, string] {
	m := &Map[K, string]{}
	for n, k := range keys {
		m.Put(k, string(rune('a'+n)))
	}
	return m
}

// orders are all orders of keys.
func orders(keys []int) [][]int {
	if len(keys) == 0 {
		return [][]int{nil}
	}
	var all [][]int
	for n, k := range keys {
		for _, o := range orders(slices.Concat(keys[:n], keys[n+1:])) {
			all = append(all, append([]int{k}, o...))
		}
	}
	return all
}

// wantLeft fails if a row that is left behind its nth step yields other steps than the first n of the whole, or yields once more.
func wantLeft[K cmp.Ordered, V any](t *testing.T, what string, row iter.Seq2[K, V]) {
	t.Helper()
	whole := strings.Split(told(row), ", ")
	for n := 1; n <= len(whole); n++ {
		var words []string
		row(func(k K, v V) bool {
			words = append(words, fmt.Sprint(k, " ", v))
			return len(words) < n
		})
		if !slices.Equal(words, whole[:n]) {
			t.Errorf("%s, left behind step %d: %q, not %q", what, n, words, whole[:n])
		}
	}
}

// P5.1

func TestMapWithoutKeys(t *testing.T) {
	var m Map[int, string]
	wantEmpty(t, &m)
	wantEmpty(t, new(Map[int, string]))
	if m.Del(0) || m.Del(1) {
		t.Error("a key was there")
	}
	wantEmpty(t, &m)
}

func TestPutGetDel(t *testing.T) {
	m := &Map[string, int]{}
	for n, k := range []string{"m", "c", "x"} {
		if !m.Put(k, n+1) || m.Len() != n+1 {
			t.Errorf("%q: %d keys", k, m.Len())
		}
	}
	wantGet(t, m, "m", 1)
	wantGet(t, m, "c", 2)
	wantGet(t, m, "x", 3)
	for _, k := range []string{"", "a", "d", "n", "y", "cc", "C"} {
		wantNone(t, m, k)
	}
	if !m.Del("m") || m.Len() != 2 {
		t.Errorf("%d keys", m.Len())
	}
	wantNone(t, m, "m")
	wantGet(t, m, "c", 2)
	wantGet(t, m, "x", 3)
}

func TestPutOfAKeyThatIsThere(t *testing.T) {
	m := letters(2, 1, 3)
	for _, k := range []int{1, 2, 3, 2} {
		if m.Put(k, "new") || m.Len() != 3 {
			t.Errorf("%d: %d keys", k, m.Len())
		}
		wantGet(t, m, k, "new")
	}
	wantRow(t, "All", m.All(), "1 new, 2 new, 3 new")
	if m.Put(2, "new") || m.Len() != 3 {
		t.Error("the same value again")
	}
}

func TestPutChangesOneValue(t *testing.T) {
	m := letters(1, 2, 3)
	m.Put(2, "z")
	wantRow(t, "All", m.All(), "1 a, 2 z, 3 c")
}

func TestDelOfAKeyThatIsNotThere(t *testing.T) {
	m := letters(2, 4, 6)
	for _, k := range []int{1, 3, 5, 7, math.MinInt, math.MaxInt} {
		if m.Del(k) || m.Len() != 3 {
			t.Errorf("%d: %d keys", k, m.Len())
		}
	}
	wantRow(t, "All", m.All(), "2 a, 4 b, 6 c")
	if !m.Del(4) || m.Del(4) || m.Del(4) || m.Len() != 2 {
		t.Errorf("%d keys", m.Len())
	}
	wantRow(t, "All", m.All(), "2 a, 6 c")
}

func TestPutBehindDel(t *testing.T) {
	m := letters(1, 2, 3)
	for _, k := range []int{1, 2, 3} {
		if !m.Del(k) || !m.Put(k, "again") || m.Put(k, "and again") || m.Len() != 3 {
			t.Errorf("%d: %d keys", k, m.Len())
		}
		wantGet(t, m, k, "and again")
	}
	for _, k := range []int{2, 1, 3} {
		m.Del(k)
	}
	wantEmpty(t, m)
	if !m.Put(0, "x") {
		t.Error("a key was there")
	}
	wantRow(t, "All", m.All(), "0 x")
}

func TestZeroValuesAndZeroKeys(t *testing.T) {
	m := &Map[string, int]{}
	if !m.Put("", 0) || m.Put("", 0) || m.Len() != 1 {
		t.Errorf("%d keys", m.Len())
	}
	wantGet(t, m, "", 0)
	n := &Map[int, string]{}
	if !n.Put(0, "") || n.Len() != 1 {
		t.Errorf("%d keys", n.Len())
	}
	wantGet(t, n, 0, "")
	if !m.Del("") || !n.Del(0) {
		t.Error("a key was not there")
	}
	wantNone(t, m, "")
	wantEmpty(t, n)
}

func TestKeysInAnyOrder(t *testing.T) {
	keys := []int{-7, 0, 1, 5, 9}
	for _, puts := range orders(keys) {
		m := &Map[int, int]{}
		for n, k := range puts {
			if !m.Put(k, 2*k) || m.Len() != n+1 {
				t.Errorf("%v: %d: %d keys", puts, k, m.Len())
			}
		}
		wantRow(t, fmt.Sprint(puts), m.All(), "-7 -14, 0 0, 1 2, 5 10, 9 18")
		wantRow(t, fmt.Sprint(puts), m.Back(), "9 18, 5 10, 1 2, 0 0, -7 -14")
		for _, k := range keys {
			wantGet(t, m, k, 2*k)
		}
	}
}

func TestDelInAnyOrder(t *testing.T) {
	keys := []int{-7, 0, 1, 5, 9}
	for _, dels := range orders(keys) {
		m := letters(keys...)
		for n, k := range dels {
			if !m.Del(k) || m.Del(k) || m.Len() != 4-n {
				t.Errorf("%v: %d: %d keys", dels, k, m.Len())
			}
			for _, other := range dels[n+1:] {
				wantGet(t, m, other, string(rune('a'+slices.Index(keys, other))))
			}
		}
		wantEmpty(t, m)
	}
}

func TestGetOfManyKeys(t *testing.T) {
	m := &Map[int, int]{}
	const many = 3000
	for n := range many {
		m.Put(n*7919%many*2, n)
	}
	if m.Len() != many {
		t.Fatalf("%d keys", m.Len())
	}
	for n := range many {
		wantGet(t, m, n*7919%many*2, n)
		wantNone(t, m, 2*n+1)
	}
}

func TestMapsAreTheirOwn(t *testing.T) {
	a, b := letters(1, 2), letters(1, 3)
	a.Put(1, "x")
	a.Del(2)
	a.Put(4, "y")
	wantRow(t, "a", a.All(), "1 x, 4 y")
	wantRow(t, "b", b.All(), "1 a, 3 b")
}

func TestValuesOfAnyType(t *testing.T) {
	type spot struct{ x, y int }
	p := &Map[string, *spot]{}
	at := &spot{1, 2}
	p.Put("a", at)
	wantGet(t, p, "a", at)
	wantNone(t, p, "b")
	s := &Map[string, spot]{}
	s.Put("a", *at)
	wantGet(t, s, "a", spot{1, 2})
	wantNone(t, s, "b")
	l := &Map[string, []int]{}
	l.Put("a", []int{1, 2})
	if v, ok := l.Get("a"); !slices.Equal(v, []int{1, 2}) || !ok {
		t.Error(v, ok)
	}
	if v, ok := l.Get("b"); v != nil || ok {
		t.Error(v, ok)
	}
	n := &Map[string, *spot]{}
	if !n.Put("a", nil) || n.Put("a", nil) || n.Len() != 1 {
		t.Error("a nil value is a value")
	}
	wantGet(t, n, "a", nil)
}

// P5.2

func TestNumbersAsKeys(t *testing.T) {
	m := letters(10, 9, math.MaxInt, -1, 0, math.MinInt, 1, -10, 2)
	wantRow(t, "int", m.All(), fmt.Sprintf("%d f, -10 h, -1 d, 0 e, 1 g, 2 i, 9 b, 10 a, %d c", math.MinInt, math.MaxInt))
	wantRow(t, "uint8", letters[uint8](128, 255, 0, 127).All(), "0 c, 127 d, 128 a, 255 b")
	wantRow(t, "int8", letters[int8](-128, 127, 0, -1).All(), "-128 a, -1 d, 0 c, 127 b")
	wantRow(t, "uint64", letters[uint64](1<<63, 1<<63-1, math.MaxUint64, 0).All(), "0 d, 9223372036854775807 b, 9223372036854775808 a, 18446744073709551615 c")
	wantRow(t, "float64", letters(0.5, math.Inf(1), -0.25, math.Inf(-1), 0).All(), "-Inf d, -0.25 c, 0 e, 0.5 a, +Inf b")
}

func TestTextsAsKeys(t *testing.T) {
	type name string
	m := letters[name]("b", "", "a", "ab", "\xff", "a\x00", "B", "10", "9", "ä", "\x00", "aa")
	var keys []name
	for k := range m.All() {
		keys = append(keys, k)
	}
	if !slices.Equal(keys, []name{"", "\x00", "10", "9", "B", "a", "a\x00", "aa", "ab", "b", "ä", "\xff"}) {
		t.Errorf("%q", keys)
	}
	for _, k := range keys {
		if _, ok := m.Get(k); !ok {
			t.Errorf("%q has no value", k)
		}
	}
	wantNone(t, m, "a\x01")
	wantRow(t, "From", m.From("aa"), "aa l, ab d, b a, ä j, \xff e")
}

func TestTheTwoZeroesAreOneKey(t *testing.T) {
	m := &Map[float64, string]{}
	if !m.Put(0, "a") || m.Put(math.Copysign(0, -1), "b") || m.Len() != 1 {
		t.Errorf("%d keys", m.Len())
	}
	wantGet(t, m, 0, "b")
}

func TestFrom(t *testing.T) {
	m := letters(2, 4, 6)
	for k, want := range map[int]string{
		math.MinInt: "2 a, 4 b, 6 c",
		1:           "2 a, 4 b, 6 c",
		2:           "2 a, 4 b, 6 c",
		3:           "4 b, 6 c",
		4:           "4 b, 6 c",
		5:           "6 c",
		6:           "6 c",
		7:           "",
		math.MaxInt: "",
	} {
		wantRow(t, fmt.Sprint("From ", k), m.From(k), want)
	}
	one := letters(5)
	wantRow(t, "ahead of the one", one.From(4), "5 a")
	wantRow(t, "at the one", one.From(5), "5 a")
	wantRow(t, "behind the one", one.From(6), "")
}

func TestFromOfTexts(t *testing.T) {
	m := letters("b", "bb", "d")
	for k, want := range map[string]string{
		"": "b a, bb b, d c", "a": "b a, bb b, d c", "b": "b a, bb b, d c", "b\x00": "bb b, d c", "bb": "bb b, d c", "bbb": "d c", "c": "d c", "d": "d c", "d\x00": "", "e": "",
	} {
		wantRow(t, fmt.Sprintf("From %q", k), m.From(k), want)
	}
}

func TestFromBehindDel(t *testing.T) {
	m := letters(2, 4, 6)
	m.Del(4)
	wantRow(t, "From", m.From(4), "6 c")
	m.Del(6)
	wantRow(t, "From", m.From(4), "")
}

func TestBack(t *testing.T) {
	wantRow(t, "none", letters[int]().Back(), "")
	wantRow(t, "one", letters(5).Back(), "5 a")
	wantRow(t, "three", letters(4, 2, 6).Back(), "6 c, 4 a, 2 b")
	wantRow(t, "texts", letters("", "b", "a").Back(), "b b, a c,  a")
}

func TestTraversalsLeftEarly(t *testing.T) {
	m := letters(3, 1, 2, 5, 4)
	wantLeft(t, "All", m.All())
	wantLeft(t, "From", m.From(2))
	wantLeft(t, "Back", m.Back())
	n := 0
	for k := range m.All() {
		if k == 3 {
			break
		}
		n++
	}
	for k := range m.Back() {
		if k == 3 {
			break
		}
		n++
	}
	for range m.From(3) {
		n++
		break
	}
	if n != 5 {
		t.Errorf("%d steps", n)
	}
	wantRow(t, "All, behind those", m.All(), "1 b, 2 c, 3 a, 4 e, 5 d")
}

func TestTraversalsAgainAndInOneAnother(t *testing.T) {
	m := letters(2, 1, 3)
	all := m.All()
	wantRow(t, "once", all, "1 b, 2 a, 3 c")
	wantRow(t, "twice", all, "1 b, 2 a, 3 c")
	out := ""
	for k := range all {
		for i := range all {
			for j := range m.Back() {
				out += fmt.Sprint(k, i, j, ";")
				if j == 2 {
					break
				}
			}
			if i == 2 {
				break
			}
		}
	}
	if out != "1 1 3;1 1 2;1 2 3;1 2 2;2 1 3;2 1 2;2 2 3;2 2 2;3 1 3;3 1 2;3 2 3;3 2 2;" {
		t.Error(out)
	}
}

func TestTraversalsTellWhatIsThereWhenTheyRun(t *testing.T) {
	m := letters(2)
	all, from, back := m.All(), m.From(2), m.Back()
	m.Put(1, "x")
	m.Put(3, "y")
	wantRow(t, "All", all, "1 x, 2 a, 3 y")
	wantRow(t, "From", from, "2 a, 3 y")
	wantRow(t, "Back", back, "3 y, 2 a, 1 x")
	m.Del(2)
	wantRow(t, "All", all, "1 x, 3 y")
	wantRow(t, "From", from, "3 y")
	wantRow(t, "Back", back, "3 y, 1 x")
}

// Of what is told then nothing is promised, but the calls end.
func TestChangesDuringATraversalEnd(t *testing.T) {
	for _, row := range []func(m *Map[int, string]) iter.Seq2[int, string]{
		(*Map[int, string]).All,
		(*Map[int, string]).Back,
		func(m *Map[int, string]) iter.Seq2[int, string] { return m.From(3) },
		func(m *Map[int, string]) iter.Seq2[int, string] { return Merge(m.All(), m.Back()) },
	} {
		m := letters(1, 2, 3, 4, 5)
		for k := range row(m) {
			m.Put(k+1, "new")
			m.Del(k)
			m.Del(k - 1)
		}
	}
}

func TestKeysThatAreNotOrdered(t *testing.T) {
	m := &Map[float64, int]{}
	for n := range 3 {
		m.Put(math.NaN(), n)
		m.Put(float64(n), n)
	}
	m.Get(math.NaN())
	m.Del(math.NaN())
	for range m.From(math.NaN()) {
	}
	for range Merge(m.All(), m.Back()) {
	}
}

// P5.3

func TestMergeOfTheExample(t *testing.T) {
	a, b := &Map[int, string]{}, &Map[int, string]{}
	a.Put(1, "a")
	a.Put(3, "b")
	b.Put(3, "c")
	b.Put(4, "d")
	wantRow(t, "a, b", Merge(a.All(), b.All()), "1 a, 3 c, 4 d")
	wantRow(t, "b, a", Merge(b.All(), a.All()), "1 a, 3 b, 4 d")
}

func TestMergeOfNone(t *testing.T) {
	none, some := letters[int](), letters(1, 2, 4)
	wantRow(t, "both", Merge(none.All(), none.All()), "")
	wantRow(t, "the first", Merge(none.All(), some.All()), "1 a, 2 b, 4 c")
	wantRow(t, "the second", Merge(some.All(), none.All()), "1 a, 2 b, 4 c")
	wantLeft(t, "the first", Merge(none.All(), some.All()))
	wantLeft(t, "the second", Merge(some.All(), none.All()))
}

func TestMergeOfTexts(t *testing.T) {
	a, b := letters("", "a", "b", "bb"), letters("a", "ab", "b\x00", "c")
	b.Put("a", "z")
	wantRow(t, "texts", Merge(a.All(), b.All()), " a, a z, ab b, b c, b\x00 c, bb d, c d")
}

func TestMergeTakesTheSecondValue(t *testing.T) {
	a, b := &Map[int, int]{}, &Map[int, int]{}
	for k := range 4 {
		a.Put(k, 10+k)
	}
	b.Put(1, 0)
	b.Put(3, 33)
	wantRow(t, "zero is a value", Merge(a.All(), b.All()), "0 10, 1 0, 2 12, 3 33")
	wantRow(t, "the others' way round", Merge(b.All(), a.All()), "0 10, 1 11, 2 12, 3 13")
	wantRow(t, "with itself", Merge(a.All(), a.All()), "0 10, 1 11, 2 12, 3 13")
}

// subset are the keys from 0 on whose bits are set, each with a value that tells the row too.
func subset(bits int, row string) *Map[int, string] {
	m := &Map[int, string]{}
	for k := range 6 {
		if bits>>k&1 != 0 {
			m.Put(k, row+fmt.Sprint(k))
		}
	}
	return m
}

// slowMerge is a merge from the promise's words: by each number there may be.
func slowMerge(a, b int) string {
	var words []string
	for k := range 6 {
		if b>>k&1 != 0 {
			words = append(words, fmt.Sprintf("%d b%d", k, k))
		} else if a>>k&1 != 0 {
			words = append(words, fmt.Sprintf("%d a%d", k, k))
		}
	}
	return strings.Join(words, ", ")
}

func TestMergeOfAllSubsets(t *testing.T) {
	for a := range 1 << 6 {
		for b := range 1 << 6 {
			what := fmt.Sprintf("%06b and %06b", a, b)
			first, second := subset(a, "a"), subset(b, "b")
			row := Merge(first.All(), second.All())
			wantRow(t, what, row, slowMerge(a, b))
			if a|b != 0 {
				wantLeft(t, what, row)
			}
			wantRow(t, what+", behind those left early", row, slowMerge(a, b))
			if first.Len() != subset(a, "").Len() || second.Len() != subset(b, "").Len() {
				t.Errorf("%s: an argument is changed", what)
			}
		}
	}
}

func TestMergeByBreak(t *testing.T) {
	a, b := letters(1, 3, 5), letters(2, 3, 6)
	for _, last := range []int{1, 2, 3, 5, 6} {
		var keys []int
		for k := range Merge(a.All(), b.All()) {
			keys = append(keys, k)
			if k == last {
				break
			}
		}
		all := []int{1, 2, 3, 5, 6}
		if !slices.Equal(keys, all[:slices.Index(all, last)+1]) {
			t.Errorf("up to %d: %v", last, keys)
		}
	}
}

func TestMergeOfTraversals(t *testing.T) {
	m := letters(1, 2, 3, 4)
	wantRow(t, "From", Merge(m.From(3), m.From(2)), "2 b, 3 c, 4 d")
	one, two, three := letters(1, 4), letters(2, 4), letters(3, 4, 5)
	two.Put(4, "y")
	three.Put(4, "z")
	wantRow(t, "of a merge and a map", Merge(Merge(one.All(), two.All()), three.All()), "1 a, 2 a, 3 a, 4 z, 5 c")
	wantRow(t, "of a map and a merge", Merge(one.All(), Merge(two.All(), three.All())), "1 a, 2 a, 3 a, 4 z, 5 c")
	wantLeft(t, "of two merges", Merge(Merge(one.All(), two.All()), Merge(two.All(), three.All())))
}

// onceOnly is a row that can be gone over one time.
func onceOnly(keys ...int) iter.Seq2[int, int] {
	return func(yield func(int, int) bool) {
		for len(keys) > 0 {
			k := keys[0]
			keys = keys[1:]
			if !yield(k, -k) {
				return
			}
		}
	}
}

func TestMergeGoesOverARowOnce(t *testing.T) {
	wantRow(t, "rows of one time", Merge(onceOnly(1, 4, 5), onceOnly(2, 4, 6, 7)), "1 -1, 2 -2, 4 -4, 5 -5, 6 -6, 7 -7")
}

func TestMergeAsksNothingAheadOfTime(t *testing.T) {
	asked := 0
	row := func(yield func(int, int) bool) { asked++ }
	merged := Merge(row, row)
	if asked != 0 {
		t.Errorf("asked %d times", asked)
	}
	wantRow(t, "both", merged, "")
	if asked != 2 {
		t.Errorf("asked %d times", asked)
	}
}

func TestMergeOfAFirstRowWithoutEnd(t *testing.T) {
	numbers := func(yield func(int, int) bool) {
		for k := 0; yield(k, k); k++ {
		}
	}
	out := ""
	for k, v := range Merge(numbers, onceOnly(-2, 1, 4)) {
		out += fmt.Sprint(k, v, ";")
		if k == 5 {
			break
		}
	}
	if out != "-2 2;0 0;1 -1;2 2;3 3;4 -4;5 5;" {
		t.Error(out)
	}
}

// Of rows that do not rise nothing is promised, but that the calls end.
func TestMergeOfRowsThatDoNotRise(t *testing.T) {
	rows := orders([]int{1, 2, 3, 4})
	rows = append(rows, []int{1, 1}, []int{2, 2, 2, 2, 2}, []int{3, 1, 3, 1}, nil)
	for _, a := range rows {
		for _, b := range rows {
			n := 0
			for range Merge(onceOnly(a...), onceOnly(b...)) {
				n++
			}
			if n > len(a)+len(b) {
				t.Errorf("%v and %v: %d steps", a, b, n)
			}
			for range Merge(onceOnly(a...), onceOnly(b...)) {
				break
			}
		}
	}
}
