package pack

import (
	"bytes"
	"fmt"
	"math"
	"strings"
	"testing"
)

// numbers are ordinary ones, and those at the edges of each width.
var numbers = []struct {
	n    int
	want string
}{
	{0, "\x00\x00\x00\x00\x00\x00\x00\x00"},
	{1, "\x00\x00\x00\x00\x00\x00\x00\x01"},
	{255, "\x00\x00\x00\x00\x00\x00\x00\xff"},
	{256, "\x00\x00\x00\x00\x00\x00\x01\x00"},
	{1 << 32, "\x00\x00\x00\x01\x00\x00\x00\x00"},
	{0x0102030405060708, "\x01\x02\x03\x04\x05\x06\x07\x08"},
	{math.MaxInt, "\x7f\xff\xff\xff\xff\xff\xff\xff"},
	{-1, "\xff\xff\xff\xff\xff\xff\xff\xff"},
	{-2, "\xff\xff\xff\xff\xff\xff\xff\xfe"},
	{-256, "\xff\xff\xff\xff\xff\xff\xff\x00"},
	{-0x0102030405060708, "\xfe\xfd\xfc\xfb\xfa\xf9\xf8\xf8"},
	{math.MinInt, "\x80\x00\x00\x00\x00\x00\x00\x00"},
}

// texts are ordinary ones, one without bytes, and some that are no UTF-8.
var texts = []struct {
	s    string
	want string
}{
	{"", "\x00\x00\x00\x00\x00\x00\x00\x00"},
	{"ab", "\x00\x00\x00\x00\x00\x00\x00\x02ab"},
	{"\x00", "\x00\x00\x00\x00\x00\x00\x00\x01\x00"},
	{"\xff\xc0\x80", "\x00\x00\x00\x00\x00\x00\x00\x03\xff\xc0\x80"},
	{"é", "\x00\x00\x00\x00\x00\x00\x00\x02\xc3\xa9"},
	{strings.Repeat("x", 300), "\x00\x00\x00\x00\x00\x00\x01\x2c" + strings.Repeat("x", 300)},
}

// wantBad fails unless a Reader is bad, and stays so whatever is read from it.
func wantBad(t *testing.T, what string, r *Reader) {
	t.Helper()
	for range 3 {
		if !r.Bad() || r.Done() {
			t.Errorf("%s: Bad %v, Done %v", what, r.Bad(), r.Done())
		}
		if n := r.Num(); n != 0 {
			t.Errorf("%s: a bad Reader's Num is %d", what, n)
		}
		if c := r.Byte(); c != 0 {
			t.Errorf("%s: a bad Reader's Byte is %d", what, c)
		}
		if s := r.Text(); s != "" {
			t.Errorf("%s: a bad Reader's Text is %q", what, s)
		}
	}
}

// P1.1

func TestWriteNum(t *testing.T) {
	for _, c := range numbers {
		if b := new(Writer).Num(c.n).Bytes(); string(b) != c.want {
			t.Errorf("Num(%d): %x", c.n, b)
		}
	}
}

func TestWriteByte(t *testing.T) {
	for c := range 256 {
		if b := new(Writer).Byte(byte(c)).Bytes(); len(b) != 1 || b[0] != byte(c) {
			t.Errorf("Byte(%d): %x", c, b)
		}
	}
}

func TestWriteText(t *testing.T) {
	for _, c := range texts {
		if b := new(Writer).Text(c.s).Bytes(); string(b) != c.want {
			t.Errorf("Text(%q): %x", c.s, b)
		}
	}
}

func TestZeroWriterHasNoBytes(t *testing.T) {
	var w Writer
	if b := w.Bytes(); len(b) != 0 {
		t.Errorf("%x", b)
	}
}

func TestWriterReturnsItself(t *testing.T) {
	w := &Writer{}
	if w.Num(1) != w || w.Byte(2) != w || w.Text("c") != w || w.Text("") != w {
		t.Error("another Writer was returned")
	}
}

func TestWriterAppends(t *testing.T) {
	w := &Writer{}
	want := ""
	for _, c := range numbers {
		w.Num(c.n)
		want += c.want
		for _, d := range texts {
			w.Text(d.s).Byte(0xe5)
			want += d.want + "\xe5"
			if got := string(w.Bytes()); got != want {
				t.Fatalf("behind %d and %q: %x, not %x", c.n, d.s, got, want)
			}
		}
	}
}

func TestBytesAreNew(t *testing.T) {
	w := new(Writer).Text("abc")
	first := w.Bytes()
	before := string(first)
	clear(first)
	if got := string(w.Bytes()); got != before {
		t.Errorf("the Writer's bytes were changed from outside: %x", got)
	}
	second := w.Bytes()
	_ = append(second, 1, 2, 3)
	w.Byte('d')
	if string(second) != before || string(w.Bytes()) != before+"d" {
		t.Errorf("%x, %x", second, w.Bytes())
	}
}

func TestWritersAreApart(t *testing.T) {
	a, b := &Writer{}, &Writer{}
	a.Byte(1)
	b.Byte(2)
	a.Byte(3)
	if !bytes.Equal(a.Bytes(), []byte{1, 3}) || !bytes.Equal(b.Bytes(), []byte{2}) {
		t.Errorf("%x, %x", a.Bytes(), b.Bytes())
	}
}

// P1.2

func TestReadNum(t *testing.T) {
	for _, c := range numbers {
		r := Of([]byte(c.want + "\x07"))
		if n := r.Num(); n != c.n || r.Bad() || r.Done() {
			t.Errorf("%x: %d, Bad %v, Done %v", c.want, n, r.Bad(), r.Done())
		}
		if b := r.Byte(); b != 7 || !r.Done() {
			t.Errorf("%x: it did not stop behind its number", c.want)
		}
	}
}

func TestReadByte(t *testing.T) {
	for c := range 256 {
		r := Of([]byte{byte(c), 7})
		if b := r.Byte(); b != byte(c) || r.Bad() || r.Done() {
			t.Errorf("%d: %d, Bad %v, Done %v", c, b, r.Bad(), r.Done())
		}
		if b := r.Byte(); b != 7 || !r.Done() {
			t.Errorf("%d: it did not stop behind its byte", c)
		}
	}
}

func TestReadText(t *testing.T) {
	for _, c := range texts {
		r := Of([]byte(c.want + "\x07"))
		if s := r.Text(); s != c.s || r.Bad() || r.Done() {
			t.Errorf("%x: %q, Bad %v, Done %v", c.want, s, r.Bad(), r.Done())
		}
		if b := r.Byte(); b != 7 || !r.Done() {
			t.Errorf("%x: it did not stop behind its text", c.want)
		}
	}
}

func TestReadWhatWasWritten(t *testing.T) {
	w := &Writer{}
	for _, c := range numbers {
		for _, d := range texts {
			w.Num(c.n).Text(d.s).Byte(byte(c.n)).Byte(byte(len(d.s)))
		}
	}
	r := Of(w.Bytes())
	for _, c := range numbers {
		for _, d := range texts {
			n, s, b, l := r.Num(), r.Text(), r.Byte(), r.Byte()
			if n != c.n || s != d.s || b != byte(c.n) || l != byte(len(d.s)) {
				t.Fatalf("%d, %q: %d, %q, %d, %d", c.n, d.s, n, s, b, l)
			}
		}
	}
	if r.Bad() || !r.Done() {
		t.Errorf("Bad %v, Done %v", r.Bad(), r.Done())
	}
}

func TestTooFewBytes(t *testing.T) {
	ones := bytes.Repeat([]byte{1}, numLen-1)
	for n := range numLen {
		r := Of(ones[:n])
		if got := r.Num(); got != 0 {
			t.Errorf("Num of %d bytes: %d", n, got)
		}
		wantBad(t, fmt.Sprintf("Num of %d bytes", n), r)
		r = Of(ones[:n])
		if got := r.Text(); got != "" {
			t.Errorf("Text of %d bytes: %q", n, got)
		}
		wantBad(t, fmt.Sprintf("Text of %d bytes", n), r)
	}
	r := Of([]byte{})
	if got := r.Byte(); got != 0 {
		t.Errorf("Byte of none: %d", got)
	}
	wantBad(t, "Byte of none", r)
}

func TestWrongLengths(t *testing.T) {
	rest := "abcdefgh\x00\x00\x00\x00\x00\x00\x00\x00"
	for _, n := range []int{-1, -2, -8, math.MinInt, math.MinInt + 1, len(rest) + 1, len(rest) + 8, 1 << 32, math.MaxInt - 1, math.MaxInt} {
		r := Of(append(new(Writer).Num(n).Bytes(), rest...))
		if s := r.Text(); s != "" {
			t.Errorf("a length of %d: %q", n, s)
		}
		wantBad(t, fmt.Sprintf("a length of %d", n), r)
	}
}

func TestLengthOfAllThatIsLeft(t *testing.T) {
	for n := range 20 {
		want := strings.Repeat("z", n)
		b := append(new(Writer).Num(n).Bytes(), want...)
		r := Of(b)
		if s := r.Text(); s != want || !r.Done() {
			t.Errorf("%d: %q, Done %v", n, s, r.Done())
		}
		r = Of(b[:len(b)-1])
		if s := r.Text(); s != "" {
			t.Errorf("%d, one byte short: %q", n, s)
		}
		wantBad(t, fmt.Sprintf("%d, one byte short", n), r)
	}
}

func TestBadLaterStaysSo(t *testing.T) {
	w := new(Writer).Num(5).Text("ab").Byte(9).Num(-1)
	b := append(w.Bytes(), "more"...)
	r := Of(b)
	if r.Num() != 5 || r.Text() != "ab" || r.Byte() != 9 || r.Bad() {
		t.Fatal("it was bad ahead of what is wrong")
	}
	if s := r.Text(); s != "" {
		t.Errorf("%q", s)
	}
	wantBad(t, "a wrong text with bytes behind it", r)

	r = Of([]byte{1, 2, 3})
	if n := r.Num(); n != 0 {
		t.Errorf("%d", n)
	}
	wantBad(t, "a short number whose bytes could be read one by one", r)
}

func TestReaderKeepsItsOwnBytes(t *testing.T) {
	b := new(Writer).Num(258).Text("ab").Byte(7).Bytes()
	before := string(b)
	r := Of(b)
	n := r.Num()
	if string(b) != before {
		t.Error("the argument was changed")
	}
	clear(b)
	s, c := r.Text(), r.Byte()
	if n != 258 || s != "ab" || c != 7 || !r.Done() {
		t.Errorf("%d, %q, %d", n, s, c)
	}
}

func TestReadersAreApart(t *testing.T) {
	b := []byte{1, 2}
	one, two := Of(b), Of(b)
	if one.Byte() != 1 || one.Byte() != 2 || one.Byte() != 0 || !one.Bad() {
		t.Error("the first")
	}
	if two.Byte() != 1 || two.Bad() || two.Byte() != 2 || !two.Done() {
		t.Error("the second")
	}
}

// P1.3

func TestNoBytesAreDone(t *testing.T) {
	for _, b := range [][]byte{nil, {}} {
		if r := Of(b); r.Bad() || !r.Done() {
			t.Errorf("Bad %v, Done %v", r.Bad(), r.Done())
		}
	}
}

func TestDoneOnlyAtTheEnd(t *testing.T) {
	r := Of([]byte{1, 2, 3})
	for i := range 3 {
		if r.Done() || r.Bad() {
			t.Errorf("at %d: Bad %v, Done %v", i, r.Bad(), r.Done())
		}
		r.Byte()
	}
	for range 2 {
		if r.Bad() || !r.Done() {
			t.Errorf("at the end: Bad %v, Done %v", r.Bad(), r.Done())
		}
	}
	r.Byte()
	wantBad(t, "behind the end", r)
}

// FuzzReader holds a Reader against a plain description of it: W1 and P1.2, for any bytes and any order of calls.
func FuzzReader(f *testing.F) {
	f.Add([]byte("\x00\x00\x00\x00\x00\x00\x00\x02ab\x07"), []byte{2, 1, 0})
	f.Add([]byte("\xff\xff\xff\xff\xff\xff\xff\xffab"), []byte{2, 1, 1})
	f.Add([]byte{1, 2, 3}, []byte{1, 0, 1})
	f.Fuzz(func(t *testing.T, b, calls []byte) {
		r := Of(b)
		at, bad := 0, false
		for _, call := range calls {
			w := &Writer{}
			switch call % 3 {
			case 0:
				w.Num(r.Num())
			case 1:
				w.Byte(r.Byte())
			case 2:
				w.Text(r.Text())
			}
			part := w.Bytes()
			bad = bad || r.Bad()
			if bad {
				if !r.Bad() || r.Done() || len(bytes.Trim(part, "\x00")) > 0 {
					t.Fatalf("bad at %d, but %x was read", at, part)
				}
				continue
			}
			if !bytes.HasPrefix(b[at:], part) {
				t.Fatalf("at %d: %x was read", at, part)
			}
			at += len(part)
			if r.Done() != (at == len(b)) {
				t.Fatalf("at %d of %d: Done %v", at, len(b), r.Done())
			}
		}
	})
}
