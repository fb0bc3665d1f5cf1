package frame

import (
	"bytes"
	"encoding/binary"
	"hash/crc32"
	"slices"
	"strings"
	"testing"

	"tephra/api"
	"tephra/check"
)

// rows are ordinary ones, one without bytes, and those that look like parts of frames.
var rows = []string{"", "\x00", "a", "\xe5", "123456789", "tephra", strings.Repeat("\xe5", 20), strings.Repeat("\x00", 9),
	"\x00\x00\x00\x00\x00\x00\x00\x00\xe5", strings.Repeat("ab", 150), strings.Repeat("x", api.MaxFrame-1), strings.Repeat("y", api.MaxFrame)}

// slowFrame is a frame from the promise's words, by the library. It sets no bound, so that it makes wrong ones too.
func slowFrame(s string) []byte {
	b := binary.BigEndian.AppendUint32(nil, uint32(len(s)))
	b = binary.BigEndian.AppendUint32(b, crc32.ChecksumIEEE([]byte(s)))
	return append(append(b, s...), 0xe5)
}

// slowOne is One from the promise's words, by the library.
func slowOne(b []byte) (string, int, api.Errno) {
	if len(b) < 8 {
		return "", 0, api.ErrTorn
	}
	n := int(binary.BigEndian.Uint32(b))
	if n > 16384 {
		return "", 0, api.ErrForm
	}
	if len(b) < 8+n+1 {
		return "", 0, api.ErrTorn
	}
	if b[8+n] != 0xe5 {
		return "", 0, api.ErrForm
	}
	if binary.BigEndian.Uint32(b[4:8]) != crc32.ChecksumIEEE(b[8:8+n]) {
		return "", 0, api.ErrSum
	}
	return string(b[8 : 8+n]), n + 9, 0
}

// slowRows is Rows from the promise's words: the rows, where each one ends, and the error behind them.
func slowRows(b []byte) ([]string, []int, api.Errno) {
	var texts []string
	var ends []int
	at := 0
	for at < len(b) {
		s, n, e := slowOne(b[at:])
		if e != 0 {
			return texts, ends, e
		}
		at += n
		texts, ends = append(texts, s), append(ends, at)
	}
	return texts, ends, 0
}

func framesOf(texts ...string) []byte {
	var b []byte
	for _, s := range texts {
		b = append(b, slowFrame(s)...)
	}
	return b
}

func textsOf(list [][]byte) []string {
	var texts []string
	for _, b := range list {
		texts = append(texts, string(b))
	}
	return texts
}

func lastEnd(ends []int) int {
	if len(ends) == 0 {
		return 0
	}
	return ends[len(ends)-1]
}

// changed is a copy with one byte set.
func changed(b []byte, k int, c byte) []byte {
	b = bytes.Clone(b)
	b[k] = c
	return b
}

// head is the first eight bytes of a frame.
func head(size, sum uint32) []byte {
	return binary.BigEndian.AppendUint32(binary.BigEndian.AppendUint32(nil, size), sum)
}

// wantOne fails if One tells another error than e, or anything beside it.
func wantOne(t *testing.T, what string, b []byte, e api.Errno) {
	t.Helper()
	row, n, got := One(b)
	if got != e || len(row) != 0 || n != 0 {
		t.Errorf("%s: %d bytes, %d, error %d, not %d", what, len(row), n, got, e)
	}
}

// wantSame fails if All or Rows tell something else of b than the slow ones do.
func wantSame(t *testing.T, what string, b []byte) {
	t.Helper()
	texts, ends, wrong := slowRows(b)
	got, end, e := Rows(b)
	if !slices.Equal(textsOf(got), texts) || end != lastEnd(ends) || e != wrong {
		t.Errorf("%s: Rows: %d rows, end %d, error %d, not %d, %d, %d", what, len(got), end, e, len(texts), lastEnd(ends), wrong)
	}
	k := 0
	for at, row := range All(b) {
		if k >= len(texts) || at != ends[k] || string(row) != texts[k] {
			t.Fatalf("%s: All: row %d ends at %d: %.20q", what, k, at, row)
		}
		k++
	}
	if k != len(texts) {
		t.Errorf("%s: All: %d rows, not %d", what, k, len(texts))
	}
}

// P3.1

func TestConstants(t *testing.T) {
	if Head != 8 || End != 0xe5 || api.MaxFrame != 16384 {
		t.Error(Head, End, api.MaxFrame)
	}
}

func TestKnownFrames(t *testing.T) {
	for _, c := range []struct{ row, want string }{
		{"", "\x00\x00\x00\x00\x00\x00\x00\x00\xe5"},
		{"a", "\x00\x00\x00\x01\xe8\xb7\xbe\x43a\xe5"},
		{"\xff\xff\xff\xff", "\x00\x00\x00\x04\xff\xff\xff\xff\xff\xff\xff\xff\xe5"},
		{"123456789", "\x00\x00\x00\x09\xcb\xf4\x39\x26123456789\xe5"},
	} {
		if b, e := Make([]byte(c.row)); e != 0 || string(b) != c.want {
			t.Errorf("%q: %x, error %d", c.row, b, e)
		}
	}
}

func TestMakeAsThePromiseSays(t *testing.T) {
	for _, s := range rows {
		b, e := Make([]byte(s))
		if e != 0 || !bytes.Equal(b, slowFrame(s)) {
			t.Errorf("%d bytes: error %d, %.20x", len(s), e, b)
		}
		if len(b) != Head+len(s)+1 || binary.BigEndian.Uint32(b[4:]) != check.Sum([]byte(s)) {
			t.Errorf("%d bytes: %d, %.20x", len(s), len(b), b)
		}
	}
}

func TestMakeOfNothing(t *testing.T) {
	for _, b := range [][]byte{nil, {}} {
		if got, e := Make(b); e != 0 || string(got) != "\x00\x00\x00\x00\x00\x00\x00\x00\xe5" {
			t.Errorf("%x, error %d", got, e)
		}
	}
}

func TestLengthsOfTwoBytes(t *testing.T) {
	for n, want := range map[int]string{255: "\x00\x00\x00\xff", 256: "\x00\x00\x01\x00", 258: "\x00\x00\x01\x02", 16383: "\x00\x00\x3f\xff", 16384: "\x00\x00\x40\x00"} {
		if b, e := Make(make([]byte, n)); e != 0 || len(b) != n+9 || string(b[:4]) != want {
			t.Errorf("%d bytes: %.12x, error %d", n, b, e)
		}
	}
}

func TestMakeFull(t *testing.T) {
	for _, n := range []int{16385, 16386, 32768, 65536, 1 << 20} {
		if b, e := Make(make([]byte, n)); e != api.ErrFull || len(b) != 0 {
			t.Errorf("%d bytes: %d bytes, error %d", n, len(b), e)
		}
	}
}

func TestMakeKeepsNothing(t *testing.T) {
	b := []byte("123456789abc")
	f, _ := Make(b[:9])
	if string(b) != "123456789abc" {
		t.Errorf("the argument is changed: %q", b)
	}
	copy(b, "zzzzzzzzzzzz")
	if !bytes.Equal(f, slowFrame("123456789")) {
		t.Errorf("the frame is changed with the argument: %x", f)
	}
	b = []byte("123456789")
	f, _ = Make(b)
	g, _ := Make(b)
	clear(f)
	if string(b) != "123456789" || !bytes.Equal(g, slowFrame("123456789")) {
		t.Errorf("changed with an earlier frame: %q, %x", b, g)
	}
}

// P3.2

func TestOneReadsWhatMakeMade(t *testing.T) {
	for _, s := range rows {
		f, _ := Make([]byte(s))
		for _, behind := range []string{"", "\x00", "\xe5", "behind it", string(f)} {
			row, n, e := One(append(bytes.Clone(f), behind...))
			if e != 0 || n != len(s)+9 || string(row) != s {
				t.Errorf("%d bytes, %.10q behind: %d bytes, %d, error %d", len(s), behind, len(row), n, e)
			}
		}
	}
}

func TestEveryCutIsTorn(t *testing.T) {
	for _, s := range []string{"", "a", "123456789", "\xe5\xe5\xe5", strings.Repeat("ab", 150)} {
		f := slowFrame(s)
		for k := range f {
			wantOne(t, "cut", f[:k], api.ErrTorn)
		}
	}
	for _, s := range []string{strings.Repeat("x", 16383), strings.Repeat("y", 16384)} {
		f := slowFrame(s)
		wantOne(t, "without its last byte", f[:len(f)-1], api.ErrTorn)
		wantOne(t, "without its last two bytes", f[:len(f)-2], api.ErrTorn)
		wantOne(t, "its head alone", f[:8], api.ErrTorn)
	}
}

func TestFewerThanEightBytesAreTorn(t *testing.T) {
	wantOne(t, "nil", nil, api.ErrTorn)
	for k := range 8 {
		for _, c := range []byte{0, 1, 0x40, 0xe5, 0xff} {
			wantOne(t, "fewer than eight", bytes.Repeat([]byte{c}, k), api.ErrTorn)
		}
	}
	wantOne(t, "eight of ff", bytes.Repeat([]byte{0xff}, 8), api.ErrForm)
	wantOne(t, "eight of 0", make([]byte, 8), api.ErrTorn)
}

func TestTheCallersRestIsNotRead(t *testing.T) {
	f := slowFrame("123456789")
	for _, k := range []int{3, 7, 8, 12, len(f) - 1} {
		wantOne(t, "a slice with more behind it in memory", f[:k], api.ErrTorn)
	}
}

func TestLengthTooGreat(t *testing.T) {
	s := strings.Repeat("x", 16385)
	wantOne(t, "a whole frame of 16385 bytes", slowFrame(s), api.ErrForm)
	for _, size := range []uint32{16385, 16386, 1 << 15, 1 << 16, 1 << 24, 1<<31 - 1, 1 << 31, 1<<32 - 9, 1<<32 - 8, 1<<32 - 1} {
		wantOne(t, "its head alone", head(size, 0), api.ErrForm)
		wantOne(t, "bytes behind its head", append(head(size, 0), s...), api.ErrForm)
	}
	wantOne(t, "the greatest length, head alone", head(16384, 0), api.ErrTorn)
}

func TestLastByte(t *testing.T) {
	for _, s := range []string{"", "a", "123456789", strings.Repeat("\xe5", 20), strings.Repeat("y", 16384)} {
		f := slowFrame(s)
		for c := range 256 {
			if c != 0xe5 {
				wantOne(t, "another last byte", changed(f, len(f)-1, byte(c)), api.ErrForm)
			}
		}
		wantOne(t, "another last byte, e5 behind it", append(changed(f, len(f)-1, 0), 0xe5), api.ErrForm)
	}
}

func TestWrongSum(t *testing.T) {
	for _, s := range []string{"", "a", "123456789", "\xff\xff\xff\xff", strings.Repeat("y", 16384)} {
		f := slowFrame(s)
		for k := 4; k < 8; k++ {
			for bit := range 8 {
				wantOne(t, "a bit of the sum", changed(f, k, f[k]^1<<bit), api.ErrSum)
			}
		}
	}
	f := slowFrame("123456789")
	for k := 8; k < 17; k++ {
		for bit := range 8 {
			wantOne(t, "a bit of the row", changed(f, k, f[k]^1<<bit), api.ErrSum)
		}
	}
}

func TestTheSumIsOfTheRowAlone(t *testing.T) {
	row := []byte("123456789")
	for _, of := range []string{"123456789\xe5", "\x00\x00\x00\x09123456789", "12345678", "23456789", ""} {
		b := append(append(head(9, crc32.ChecksumIEEE([]byte(of))), row...), 0xe5)
		wantOne(t, "the sum of other bytes", b, api.ErrSum)
	}
}

func TestSeveralErrorsAtOnce(t *testing.T) {
	x := strings.Repeat("x", 20000)
	for _, c := range []struct {
		what string
		b    []byte
		want api.Errno
	}{
		{"fewer than eight, and of too great a length", []byte("\xff\xff\xff\xff\x00\x00\x00"), api.ErrTorn},
		{"a length of 16385, not complete", append(head(16385, 0), x[:16384]...), api.ErrForm},
		{"a length of 16385, complete, a wrong last byte and sum", append(head(16385, 0), x...), api.ErrForm},
		{"not complete, and a wrong sum", append(head(9, 1), "12345678"...), api.ErrTorn},
		{"not complete by its last byte, and a wrong sum", append(head(9, 1), "123456789"...), api.ErrTorn},
		{"not complete, though its last one is e5", append(head(9, 1), "12345678\xe5"...), api.ErrTorn},
		{"a wrong last byte and sum", append(head(9, 1), "123456789\x00"...), api.ErrForm},
		{"a wrong last byte and sum, no row", append(head(0, 1), 0), api.ErrForm},
		{"a wrong sum alone", append(head(9, 1), "123456789\xe5"...), api.ErrSum},
		{"a wrong sum alone, no row", append(head(0, 1), 0xe5), api.ErrSum},
	} {
		wantOne(t, c.what, c.b, c.want)
	}
}

func TestOneKeepsNothing(t *testing.T) {
	b := framesOf("123456789", "behind")
	whole := bytes.Clone(b)
	row, _, _ := One(b)
	again, _, _ := One(b)
	_ = append(row, "more"...)
	if !bytes.Equal(b, whole) {
		t.Errorf("the argument is changed: %x", b)
	}
	clear(b)
	if string(row) != "123456789" {
		t.Errorf("the row is changed with the argument: %q", row)
	}
	clear(row)
	if string(again) != "123456789" {
		t.Errorf("the row is changed with another answer: %q", again)
	}
}

// P3.3

func TestKnownRows(t *testing.T) {
	b := framesOf("123456789", "", "ab")
	got, end, e := Rows(b)
	if !slices.Equal(textsOf(got), []string{"123456789", "", "ab"}) || end != 38 || e != 0 {
		t.Error(got, end, e)
	}
	var ends []int
	for at := range All(b) {
		ends = append(ends, at)
	}
	if !slices.Equal(ends, []int{18, 27, 38}) {
		t.Error(ends)
	}
}

func TestNoRows(t *testing.T) {
	for _, b := range [][]byte{nil, {}} {
		if got, end, e := Rows(b); len(got) != 0 || end != 0 || e != 0 {
			t.Error(got, end, e)
		}
		for at, row := range All(b) {
			t.Error(at, row)
		}
	}
	for _, c := range []struct {
		b    []byte
		want api.Errno
	}{
		{[]byte{0}, api.ErrTorn},
		{[]byte("not a frame"), api.ErrForm},
		{slowFrame("ab")[:10], api.ErrTorn},
		{append(head(2, 0), "ab\xe5"...), api.ErrSum},
		{append(head(2, 0), "ab\xe4"...), api.ErrForm},
	} {
		if got, end, e := Rows(c.b); len(got) != 0 || end != 0 || e != c.want {
			t.Errorf("%x: %v, %d, error %d, not %d", c.b, got, end, e, c.want)
		}
		for at, row := range All(c.b) {
			t.Error(at, row)
		}
	}
}

func TestFramesBehindOneAnother(t *testing.T) {
	wantSame(t, "one of each", framesOf(rows...))
	for _, s := range rows {
		wantSame(t, "one", framesOf(s))
		wantSame(t, "three", framesOf(s, s, s))
	}
	many := bytes.Repeat(framesOf("", "a"), 2000)
	if got, end, e := Rows(many); len(got) != 4000 || end != len(many) || e != 0 {
		t.Error(len(got), end, e)
	}
}

func TestErrorsBehindFrames(t *testing.T) {
	ahead := framesOf("123456789", "", "ab")
	for _, c := range []struct {
		what   string
		behind []byte
		want   api.Errno
	}{
		{"one byte", []byte{0}, api.ErrTorn},
		{"seven bytes", bytes.Repeat([]byte{0xff}, 7), api.ErrTorn},
		{"a length too great", bytes.Repeat([]byte{0xff}, 8), api.ErrForm},
		{"a frame without its last byte", slowFrame("xyz")[:11], api.ErrTorn},
		{"a wrong last byte", changed(slowFrame("xyz"), 11, 0), api.ErrForm},
		{"a wrong sum", changed(slowFrame("xyz"), 9, 0), api.ErrSum},
	} {
		for _, far := range [][]byte{nil, framesOf("far")} {
			if c.want == api.ErrTorn && far != nil {
				continue
			}
			b := slices.Concat(ahead, c.behind, far)
			got, end, e := Rows(b)
			if !slices.Equal(textsOf(got), []string{"123456789", "", "ab"}) || end != 38 || e != c.want {
				t.Errorf("%s: %q, end %d, error %d, not %d", c.what, got, end, e, c.want)
			}
			wantSame(t, c.what, b)
		}
	}
}

func TestEveryCutOfFrames(t *testing.T) {
	b := framesOf("123456789", "", "ab", strings.Repeat("\xe5", 20))
	for k := range len(b) + 1 {
		wantSame(t, "cut", b[:k])
		wantSame(t, "begun later", b[k:])
	}
}

func TestEveryByteOfFrames(t *testing.T) {
	b := framesOf("123456789", "", "ab")
	for k := range b {
		for c := range 256 {
			wantSame(t, "a byte changed", changed(b, k, byte(c)))
		}
	}
}

func TestRestIsNotReadAgainFromTheMiddle(t *testing.T) {
	inner := framesOf("inner")
	got, end, e := Rows(framesOf(string(inner), "b"))
	if len(got) != 2 || !bytes.Equal(got[0], inner) || end != len(inner)+9+10 || e != 0 {
		t.Errorf("%q, %d, error %d", got, end, e)
	}
}

func TestStopEarly(t *testing.T) {
	b := framesOf("a", "b", "c", "d")
	for stop := 1; stop <= 4; stop++ {
		calls := 0
		All(b)(func(at int, row []byte) bool {
			calls++
			if at != 10*calls || string(row) != "abcd"[calls-1:calls] {
				t.Errorf("row %d ends at %d: %q", calls, at, row)
			}
			return calls < stop
		})
		if calls != stop {
			t.Errorf("stopped at row %d: %d calls", stop, calls)
		}
	}
	for at, row := range All(b) {
		if at != 10 || string(row) != "a" {
			t.Errorf("%d: %q", at, row)
		}
		break
	}
}

func TestStopAheadOfAnError(t *testing.T) {
	n := 0
	for range All(append(framesOf("a", "b"), "not a frame"...)) {
		n++
		if n == 2 {
			break
		}
	}
	if n != 2 {
		t.Error(n)
	}
}

func TestGoingOverThemAgain(t *testing.T) {
	all := All(framesOf("a", "b", "c"))
	for range all {
		break
	}
	for range 2 {
		var got []string
		for at, row := range all {
			if at != 10*(len(got)+1) {
				t.Error(at)
			}
			got = append(got, string(row))
			clear(row)
		}
		if !slices.Equal(got, []string{"a", "b", "c"}) {
			t.Error(got)
		}
	}
}

func TestGoingOverThemWithinItself(t *testing.T) {
	all := All(framesOf("a", "b", "c"))
	var got []string
	for _, x := range all {
		for _, y := range all {
			got = append(got, string(x)+string(y))
		}
	}
	if !slices.Equal(got, []string{"aa", "ab", "ac", "ba", "bb", "bc", "ca", "cb", "cc"}) {
		t.Error(got)
	}
}

func TestAllKeepsNothing(t *testing.T) {
	b := framesOf("a", "b", "c")
	whole := bytes.Clone(b)
	all := All(b)
	clear(b)
	var got [][]byte
	for _, row := range all {
		got = append(got, row)
	}
	if !slices.Equal(textsOf(got), []string{"a", "b", "c"}) {
		t.Errorf("changed with the argument: %q", got)
	}
	b = bytes.Clone(whole)
	for _, row := range All(b) {
		row[0] = 'z'
		_ = append(row, "more"...)
	}
	if !bytes.Equal(b, whole) {
		t.Errorf("the argument is changed: %x", b)
	}
}

func TestRowsKeepsNothing(t *testing.T) {
	b := framesOf("abc", "", "def")
	whole := bytes.Clone(b)
	got, _, _ := Rows(b)
	clear(b)
	if !slices.Equal(textsOf(got), []string{"abc", "", "def"}) {
		t.Errorf("changed with the argument: %q", got)
	}
	for k := range got {
		_ = append(got[k], "more bytes behind the row"...)
	}
	if !slices.Equal(textsOf(got), []string{"abc", "", "def"}) {
		t.Errorf("the rows share memory: %q", got)
	}
	b = bytes.Clone(whole)
	got, _, _ = Rows(b)
	for _, row := range got {
		clear(row)
	}
	if !bytes.Equal(b, whole) {
		t.Errorf("the argument is changed: %x", b)
	}
}

func FuzzFrames(f *testing.F) {
	f.Add([]byte("123456789"), 0, byte(0), 0)
	f.Add(framesOf("a", "", "b"), 3, byte(1), 5)
	f.Add(framesOf("a", "", "b"), 28, byte(4), 0)
	f.Fuzz(func(t *testing.T, b []byte, k int, flip byte, cut int) {
		wantSame(t, "any bytes", b)
		made, e := Make(b)
		if len(b) > api.MaxFrame {
			if e != api.ErrFull || len(made) != 0 {
				t.Errorf("%d bytes: error %d", len(b), e)
			}
			return
		}
		if !bytes.Equal(made, slowFrame(string(b))) || e != 0 {
			t.Errorf("%x: %x, error %d", b, made, e)
		}
		two := slices.Concat(made, made)
		two[uint(k)%uint(len(two))] ^= flip
		two = two[:len(two)-int(uint(cut)%uint(len(two)))]
		wantSame(t, "two frames, one byte changed", two)
		row, n, got := One(two)
		if s, m, want := slowOne(two); string(row) != s || n != m || got != want {
			t.Errorf("%x: %x, %d, error %d", two, row, n, got)
		}
	})
}
