package check

import (
	"bytes"
	"hash/crc32"
	"math"
	"strings"
	"testing"
)

// polys are the document's, others in use, and the edges.
var polys = []uint32{Poly, 0x82f63b78, 0xeb31d82e, 0, 1, 1 << 31, 0x80000001, 0xdeadbeef, math.MaxUint32}

// texts are ordinary ones, one without bytes, and some of single bytes at the edges.
var texts = []string{"", "\x00", "\x01", "\x7f", "\x80", "\xff", "a", "ab", "ba", "123456789", "\x00\x00\x00\x00", "\xff\xff\xff\xff",
	"\xff\xff\xff\xff\xff", "tephra", strings.Repeat("\x00", 300), strings.Repeat("abc\xfe", 5000)}

// slowElement is an element of a table, worked out bit by bit from the promise's words: the bits of a number stand in a list, the lowest first.
func slowElement(k int, poly uint32) uint32 {
	var bits [32]uint32
	for i := range bits {
		bits[i] = uint32(k) >> i & 1
	}
	for range 8 {
		out := bits[0]
		copy(bits[:], bits[1:])
		bits[31] = 0
		for i := range bits {
			bits[i] ^= out & (poly >> i)
		}
	}
	sum := uint32(0)
	for i, b := range bits {
		sum |= b << i
	}
	return sum
}

// slowSum is a checksum by a table, from the promise's words, by arithmetic in place of shifts and masks.
func slowSum(t Table, s string) uint32 {
	register := uint64(1)<<32 - 1
	for i := range len(s) {
		low := register % 256
		register = uint64(t[uint64(s[i])^low]) ^ register/256
	}
	return uint32(1<<32 - 1 - register)
}

// oddTable is one that no polynomial yields: also its element 0 is not 0.
func oddTable() Table {
	var t Table
	for k := range t {
		t[k] = uint32(k)*0x9e3779b1 + 0x12345678
	}
	return t
}

// P2.1

func TestKnownElements(t *testing.T) {
	x := Of(0xedb88320)
	for _, c := range []struct {
		k    int
		want uint32
	}{{0, 0}, {1, 0x77073096}, {2, 0xee0e612c}, {127, 0xc0ba6cad}, {128, 0xedb88320}, {254, 0x5a05df1b}, {255, 0x2d02ef8d}} {
		if x[c.k] != c.want {
			t.Errorf("element %d: %08x, not %08x", c.k, x[c.k], c.want)
		}
	}
}

func TestEveryElement(t *testing.T) {
	for _, poly := range polys {
		x := Of(poly)
		for k, got := range x {
			if want := slowElement(k, poly); got != want {
				t.Errorf("poly %08x, element %d: %08x, not %08x", poly, k, got, want)
			}
		}
	}
}

func TestElementZeroIsZero(t *testing.T) {
	for _, poly := range polys {
		if x := Of(poly); x[0] != 0 {
			t.Errorf("poly %08x: %08x", poly, x[0])
		}
	}
}

func TestElementOfTheHighestBitIsPoly(t *testing.T) {
	for _, poly := range polys {
		if x := Of(poly); x[128] != poly {
			t.Errorf("poly %08x: %08x", poly, x[128])
		}
	}
}

func TestPolyZeroShiftsAllOut(t *testing.T) {
	if Of(0) != (Table{}) {
		t.Error("eight shifts leave something of a byte")
	}
}

func TestPolyOfOnes(t *testing.T) {
	x := Of(math.MaxUint32)
	for _, c := range []struct {
		k    int
		want uint32
	}{{0, 0}, {1, 0x02000000}, {2, 0x04000000}, {3, 0x06000000}, {128, 0xffffffff}, {255, 0x01ffffff}} {
		if x[c.k] != c.want {
			t.Errorf("element %d: %08x, not %08x", c.k, x[c.k], c.want)
		}
	}
}

func TestTablesAreAsTheLibraryHasThem(t *testing.T) {
	for _, poly := range polys {
		if Of(poly) != Table(*crc32.MakeTable(poly)) {
			t.Errorf("poly %08x", poly)
		}
	}
}

func TestTablesAreApart(t *testing.T) {
	x := Of(Poly)
	clear(x[:])
	if y := Of(Poly); y[1] != 0x77073096 {
		t.Errorf("a later table is changed: %08x", y[1])
	}
	if got := Sum([]byte("123456789")); got != 0xcbf43926 {
		t.Errorf("a later sum is changed: %08x", got)
	}
}

func TestPoly(t *testing.T) {
	if Poly != 0xedb88320 {
		t.Errorf("%08x", Poly)
	}
}

// P2.2

func TestKnownSums(t *testing.T) {
	x := Of(Poly)
	for _, c := range []struct {
		s    string
		want uint32
	}{{"", 0}, {"123456789", 0xcbf43926}, {"a", 0xe8b7be43}, {"\x00", 0xd202ef8d}, {"\xff", 0xff000000}, {"\xff\xff\xff\xff", 0xffffffff}, {"abc", 0x352441c2}} {
		if got := Sum([]byte(c.s)); got != c.want {
			t.Errorf("Sum(%q): %08x, not %08x", c.s, got, c.want)
		}
		if got := x.Sum([]byte(c.s)); got != c.want {
			t.Errorf("the table's Sum(%q): %08x, not %08x", c.s, got, c.want)
		}
	}
}

func TestSumOfNothing(t *testing.T) {
	odd, none := oddTable(), Table{}
	for _, b := range [][]byte{nil, {}} {
		if Sum(b) != 0 || odd.Sum(b) != 0 || none.Sum(b) != 0 {
			t.Errorf("%08x, %08x, %08x", Sum(b), odd.Sum(b), none.Sum(b))
		}
	}
}

func TestSumsByOtherPolys(t *testing.T) {
	for _, poly := range polys {
		x := Of(poly)
		for _, s := range texts {
			if got, want := x.Sum([]byte(s)), slowSum(x, s); got != want {
				t.Errorf("poly %08x, %.20q: %08x, not %08x", poly, s, got, want)
			}
			if got, want := x.Sum([]byte(s)), crc32.Checksum([]byte(s), crc32.MakeTable(poly)); got != want {
				t.Errorf("poly %08x, %.20q: %08x, the library %08x", poly, s, got, want)
			}
		}
	}
	y := Of(0x82f63b78)
	if got := y.Sum([]byte("123456789")); got != 0xe3069283 {
		t.Errorf("%08x", got)
	}
}

func TestSumByATableOfNoPoly(t *testing.T) {
	x := oddTable()
	for _, s := range texts {
		if got, want := x.Sum([]byte(s)), slowSum(x, s); got != want {
			t.Errorf("%.20q: %08x, not %08x", s, got, want)
		}
	}
	if got, want := x.Sum([]byte{0xff}), ^(x[0] ^ 0x00ffffff); got != want {
		t.Errorf("one byte: %08x, not %08x", got, want)
	}
}

func TestSumByTheTableAsItIs(t *testing.T) {
	x := Of(Poly)
	x[0xff^'a'] ^= 1
	if got := x.Sum([]byte("a")); got != 0xe8b7be43^1 {
		t.Errorf("a changed element: %08x", got)
	}
	if got := x.Sum([]byte("b")); got != Sum([]byte("b")) {
		t.Errorf("an element that another byte has: %08x", got)
	}
}

func TestEveryByteTellsItself(t *testing.T) {
	seen := map[uint32]int{}
	for c := range 256 {
		sum := Sum([]byte{byte(c)})
		if was, ok := seen[sum]; ok {
			t.Errorf("bytes %d and %d have one sum", was, c)
		}
		seen[sum] = c
	}
}

func TestSumChangesNothing(t *testing.T) {
	x := oddTable()
	b := []byte("123456789abcdef")
	whole := bytes.Clone(b)
	first, again := x.Sum(b[:9]), x.Sum(b[:9])
	if first != again || x != oddTable() || !bytes.Equal(b, whole) {
		t.Errorf("%08x, %08x, %q", first, again, b)
	}
	if Sum(b[:9]) != Sum(b[:9]) || !bytes.Equal(b, whole) {
		t.Errorf("%q", b)
	}
}

func FuzzSum(f *testing.F) {
	for _, poly := range polys {
		f.Add(poly, []byte("123456789"))
	}
	f.Fuzz(func(t *testing.T, poly uint32, b []byte) {
		x := Of(poly)
		for _, k := range []int{0, 1, 128, 255, len(b) % 256} {
			if want := slowElement(k, poly); x[k] != want {
				t.Errorf("poly %08x, element %d: %08x, not %08x", poly, k, x[k], want)
			}
		}
		if got, want := x.Sum(b), slowSum(x, string(b)); got != want {
			t.Errorf("poly %08x, %q: %08x, not %08x", poly, b, got, want)
		}
		if got, want := Sum(b), crc32.ChecksumIEEE(b); got != want {
			t.Errorf("%q: %08x, not %08x", b, got, want)
		}
	})
}
