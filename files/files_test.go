package files

import (
	"bytes"
	"fmt"
	"math"
	"slices"
	"strings"
	"testing"

	"tephra/api"
)

// wantNo fails if one of several calls has an error.
func wantNo(t *testing.T, errors ...api.Errno) {
	t.Helper()
	for k, e := range errors {
		if e != 0 {
			t.Fatalf("call %d: error %d", k, e)
		}
	}
}

// wantErr fails if a call has another error, or if it was counted.
func wantErr(t *testing.T, what string, d *Disk, want api.Errno, call func() api.Errno) {
	t.Helper()
	names, used, calls, down := d.Names(), d.Used(), d.Calls(), d.Down()
	if e := call(); e != want {
		t.Errorf("%s: error %d, not %d", what, e, want)
	}
	if !slices.Equal(d.Names(), names) || d.Used() != used || d.Calls() != calls || d.Down() != down {
		t.Errorf("%s: names %q, used %d, calls %d, down %v", what, d.Names(), d.Used(), d.Calls(), d.Down())
	}
}

// wantRead fails if a file has other bytes.
func wantRead(t *testing.T, d *Disk, name, want string) {
	t.Helper()
	if b, e := d.Read(name); string(b) != want || e != 0 {
		t.Errorf("%q: %q, error %d, not %q", name, b, e, want)
	}
}

// wantNames fails if a disk has other names.
func wantNames(t *testing.T, d *Disk, want ...string) {
	t.Helper()
	if got := d.Names(); !slices.Equal(got, want) {
		t.Errorf("names %q, not %q", got, want)
	}
}

// lay makes a file of bytes, the first of which are safe. Its name is not.
func lay(t *testing.T, d *Disk, name, safe, more string) {
	t.Helper()
	wantNo(t, d.Create(name), d.Append(name, []byte(safe)), d.Sync(name), d.Append(name, []byte(more)))
}

// changes are one call each of P4.2, all of which would return 0 on a disk with files a and b of at least two bytes and with room for three bytes more.
var changes = []struct {
	what string
	call func(d *Disk) api.Errno
}{
	{"Create", func(d *Disk) api.Errno { return d.Create("new") }},
	{"Append", func(d *Disk) api.Errno { return d.Append("a", []byte("xyz")) }},
	{"Append of nothing", func(d *Disk) api.Errno { return d.Append("a", nil) }},
	{"Cut", func(d *Disk) api.Errno { return d.Cut("a", 1) }},
	{"Sync", func(d *Disk) api.Errno { return d.Sync("a") }},
	{"SyncDir", func(d *Disk) api.Errno { return d.SyncDir() }},
	{"Rename", func(d *Disk) api.Errno { return d.Rename("a", "c") }},
	{"Rename in place of another", func(d *Disk) api.Errno { return d.Rename("a", "b") }},
	{"Remove", func(d *Disk) api.Errno { return d.Remove("a") }},
}

// two is a disk for changes: the names and the first byte of each file are safe, the other two bytes are not.
func two(t *testing.T) *Disk {
	t.Helper()
	d := Of(9)
	lay(t, d, "a", "1", "23")
	lay(t, d, "b", "4", "56")
	wantNo(t, d.SyncDir())
	return d
}

// P4.1

func TestOfIsEmpty(t *testing.T) {
	for _, room := range []int{math.MinInt, -1, 0, 1, 10, math.MaxInt} {
		d := Of(room)
		if len(d.Names()) != 0 || d.Used() != 0 || d.Calls() != 0 || d.Down() {
			t.Error(room, d.Names(), d.Used(), d.Calls(), d.Down())
		}
		wantErr(t, "Remove", d, api.ErrUnknown, func() api.Errno { return d.Remove("a") })
	}
}

func TestRoom(t *testing.T) {
	for _, c := range []struct{ room, fits int }{{math.MinInt, 0}, {-5, 0}, {-1, 0}, {0, 0}, {1, 1}, {10, 10}, {1000, 1000}} {
		d := Of(c.room)
		wantNo(t, d.Create("a"))
		more := make([]byte, c.fits+1)
		wantErr(t, "one byte more", d, api.ErrFull, func() api.Errno { return d.Append("a", more) })
		wantNo(t, d.Append("a", nil), d.Append("a", more[:c.fits]), d.Append("a", []byte{}))
		wantErr(t, "one byte behind", d, api.ErrFull, func() api.Errno { return d.Append("a", []byte{1}) })
		if d.Used() != c.fits {
			t.Errorf("room %d: %d", c.room, d.Used())
		}
	}
	d := Of(math.MaxInt)
	wantNo(t, d.Create("a"), d.Append("a", make([]byte, 1<<20)), d.Append("a", make([]byte, 1<<20)))
	if d.Used() != 1<<21 {
		t.Error(d.Used())
	}
}

func TestNamesRise(t *testing.T) {
	d := Of(0)
	for _, name := range []string{"b", "a", "ab", "B", "", "\xff", "é", "a\x00", "10", "9"} {
		wantNo(t, d.Create(name))
	}
	wantNames(t, d, "", "10", "9", "B", "a", "a\x00", "ab", "b", "é", "\xff")
}

func TestNamesAreNew(t *testing.T) {
	d := Of(0)
	wantNo(t, d.Create("a"), d.Create("b"))
	names := d.Names()
	names[0], names[1] = "x", "y"
	wantNames(t, d, "a", "b")
}

func TestUsedIsOfCurrentNames(t *testing.T) {
	d := Of(100)
	want := func(n int) {
		t.Helper()
		if d.Used() != n {
			t.Errorf("%d, not %d", d.Used(), n)
		}
	}
	lay(t, d, "a", "1234", "5")
	want(5)
	lay(t, d, "b", "", "123")
	want(8)
	wantNo(t, d.SyncDir(), d.Rename("b", "c"))
	want(8)
	wantNo(t, d.Rename("c", "a"))
	want(3)
	wantNo(t, d.Cut("a", 1))
	want(1)
	wantNo(t, d.Remove("a"))
	want(0)
	d.Restart(0, 0)
	want(4)
}

func TestRead(t *testing.T) {
	d := Of(10)
	wantNo(t, d.Create("a"))
	wantRead(t, d, "a", "")
	wantNo(t, d.Append("a", []byte("ab\x00")), d.Append("a", []byte("\xff")))
	wantRead(t, d, "a", "ab\x00\xff")
	for _, name := range []string{"b", "", "A", "a ", "aa"} {
		if b, e := d.Read(name); e != api.ErrUnknown || len(b) != 0 {
			t.Errorf("%q: %q, error %d", name, b, e)
		}
	}
	if d.Calls() != 3 {
		t.Error("Read is counted", d.Calls())
	}
}

func TestReadWhenDown(t *testing.T) {
	d := two(t)
	d.Arm(0)
	if d.Sync("a") != api.ErrCrash {
		t.Fatal("it did not stop")
	}
	for _, name := range []string{"a", "b", "none"} {
		if b, e := d.Read(name); e != api.ErrCrash || len(b) != 0 {
			t.Errorf("%q: %q, error %d", name, b, e)
		}
	}
}

func TestBytesAreApart(t *testing.T) {
	d := Of(100)
	b := []byte("abcdef")
	wantNo(t, d.Create("a"), d.Append("a", b[:3]))
	if string(b) != "abcdef" {
		t.Errorf("the argument is changed: %q", b)
	}
	clear(b)
	wantRead(t, d, "a", "abc")
	first, _ := d.Read("a")
	second, _ := d.Read("a")
	clear(first)
	_ = append(second, "zzz"...)
	wantNo(t, d.Append("a", []byte("def")), d.Cut("a", 2), d.Append("a", []byte("xyz")))
	if string(second) != "abc" {
		t.Errorf("what was read is changed later: %q", second)
	}
	wantRead(t, d, "a", "abxyz")
}

func TestDisksAreApart(t *testing.T) {
	one, other := Of(5), Of(5)
	wantNo(t, one.Create("a"), one.Append("a", []byte("12345")), one.SyncDir(), other.Create("a"), other.Append("a", []byte("67")))
	one.Arm(0)
	wantNo(t, other.Sync("a"))
	wantRead(t, one, "a", "12345")
	wantRead(t, other, "a", "67")
	if one.Calls() != 3 || other.Calls() != 3 || one.Remove("a") != api.ErrCrash || other.Down() {
		t.Error(one.Calls(), other.Calls(), other.Down())
	}
}

// P4.2

func TestEachChange(t *testing.T) {
	want := map[string]string{
		"Create":                     "a=123 b=456 new=",
		"Append":                     "a=123xyz b=456",
		"Append of nothing":          "a=123 b=456",
		"Cut":                        "a=1 b=456",
		"Sync":                       "a=123 b=456",
		"SyncDir":                    "a=123 b=456",
		"Rename":                     "b=456 c=123",
		"Rename in place of another": "b=123",
		"Remove":                     "b=456",
	}
	for _, c := range changes {
		d := two(t)
		if e := c.call(d); e != 0 || said(d) != want[c.what] {
			t.Errorf("%s: error %d, %s, not %s", c.what, e, said(d), want[c.what])
		}
	}
}

// said are all names and files of a disk.
func said(d *Disk) string {
	var parts []string
	for _, name := range d.Names() {
		b, _ := d.Read(name)
		parts = append(parts, name+"="+string(b))
	}
	return strings.Join(parts, " ")
}

func TestUnknownNames(t *testing.T) {
	d := two(t)
	for _, name := range []string{"x", "", "A", "ab", "b\x00"} {
		wantErr(t, "Append", d, api.ErrUnknown, func() api.Errno { return d.Append(name, []byte("x")) })
		wantErr(t, "Append of nothing", d, api.ErrUnknown, func() api.Errno { return d.Append(name, nil) })
		wantErr(t, "Cut", d, api.ErrUnknown, func() api.Errno { return d.Cut(name, 0) })
		wantErr(t, "Sync", d, api.ErrUnknown, func() api.Errno { return d.Sync(name) })
		wantErr(t, "Rename", d, api.ErrUnknown, func() api.Errno { return d.Rename(name, "b") })
		wantErr(t, "Remove", d, api.ErrUnknown, func() api.Errno { return d.Remove(name) })
	}
	if said(d) != "a=123 b=456" {
		t.Error(said(d))
	}
}

func TestANameThatIsSafeButNotCurrentIsUnknown(t *testing.T) {
	d := two(t)
	wantNo(t, d.Remove("a"), d.Rename("b", "c"))
	for _, name := range []string{"a", "b"} {
		wantErr(t, "Sync", d, api.ErrUnknown, func() api.Errno { return d.Sync(name) })
		wantErr(t, "Remove", d, api.ErrUnknown, func() api.Errno { return d.Remove(name) })
		if _, e := d.Read(name); e != api.ErrUnknown || d.Flip(name, 0, 1) {
			t.Errorf("%s: error %d", name, e)
		}
	}
	wantNo(t, d.Create("a"))
	wantRead(t, d, "a", "")
}

func TestSeveralErrorsAtOnce(t *testing.T) {
	d := two(t)
	big := make([]byte, 100)
	wantErr(t, "Append: no such name, no room", d, api.ErrUnknown, func() api.Errno { return d.Append("x", big) })
	wantErr(t, "Cut: no such name, no such length", d, api.ErrUnknown, func() api.Errno { return d.Cut("x", -1) })
	wantErr(t, "Rename: no such name, equal", d, api.ErrUnknown, func() api.Errno { return d.Rename("x", "x") })
	for k := range api.MaxFiles - 2 {
		wantNo(t, d.Create(fmt.Sprint("more", k)))
	}
	wantErr(t, "Create: there already, too many", d, api.ErrExist, func() api.Errno { return d.Create("a") })
	d.Arm(0)
	if d.SyncDir() != api.ErrCrash {
		t.Fatal("it did not stop")
	}
	wantErr(t, "Create when down: there already, too many", d, api.ErrCrash, func() api.Errno { return d.Create("a") })
	wantErr(t, "Create when down: too many", d, api.ErrCrash, func() api.Errno { return d.Create("x") })
	wantErr(t, "Append when down: no such name, no room", d, api.ErrCrash, func() api.Errno { return d.Append("x", big) })
	wantErr(t, "Append when down: no room", d, api.ErrCrash, func() api.Errno { return d.Append("a", big) })
	wantErr(t, "Cut when down: no such length", d, api.ErrCrash, func() api.Errno { return d.Cut("a", 4) })
	wantErr(t, "Sync when down: no such name", d, api.ErrCrash, func() api.Errno { return d.Sync("x") })
	wantErr(t, "Rename when down: equal", d, api.ErrCrash, func() api.Errno { return d.Rename("a", "a") })
	wantErr(t, "Rename when down: no such name", d, api.ErrCrash, func() api.Errno { return d.Rename("x", "y") })
	wantErr(t, "Remove when down: no such name", d, api.ErrCrash, func() api.Errno { return d.Remove("x") })
}

func TestCreate(t *testing.T) {
	d := two(t)
	wantErr(t, "there already", d, api.ErrExist, func() api.Errno { return d.Create("a") })
	wantRead(t, d, "a", "123")
	wantNo(t, d.Create(""))
	wantErr(t, "a name without bytes, there already", d, api.ErrExist, func() api.Errno { return d.Create("") })
	wantRead(t, d, "", "")
}

func TestSixtyFourNames(t *testing.T) {
	d := Of(0)
	for k := range 64 {
		wantNo(t, d.Create(fmt.Sprint(k)))
	}
	wantErr(t, "one more", d, api.ErrFull, func() api.Errno { return d.Create("x") })
	if len(d.Names()) != 64 {
		t.Error(len(d.Names()))
	}
	wantNo(t, d.Rename("0", "x"))
	wantErr(t, "one more behind Rename", d, api.ErrFull, func() api.Errno { return d.Create("0") })
	wantNo(t, d.Rename("x", "1"), d.Create("0"))
	wantErr(t, "one more behind Rename in place of another", d, api.ErrFull, func() api.Errno { return d.Create("x") })
	wantNo(t, d.SyncDir(), d.Remove("2"), d.Create("x"))
	wantErr(t, "one more behind Remove", d, api.ErrFull, func() api.Errno { return d.Create("2") })
	d.Restart(1, 0)
	if len(d.Names()) != 63 {
		t.Error(len(d.Names()))
	}
}

func TestAppendCountsAllFiles(t *testing.T) {
	d := two(t)
	wantErr(t, "four bytes", d, api.ErrFull, func() api.Errno { return d.Append("a", []byte("wxyz")) })
	wantNo(t, d.Append("b", []byte("xy")), d.Append("a", []byte("z")), d.Append("b", nil))
	wantErr(t, "one byte more", d, api.ErrFull, func() api.Errno { return d.Append("b", []byte("!")) })
	if said(d) != "a=123z b=456xy" {
		t.Error(said(d))
	}
	wantNo(t, d.Cut("a", 1), d.Append("b", []byte("!!!")), d.Remove("a"), d.Append("b", []byte("?")))
	wantErr(t, "full again", d, api.ErrFull, func() api.Errno { return d.Append("b", []byte("!")) })
}

func TestMoreThanTheRoomIsFull(t *testing.T) {
	d := Of(4)
	lay(t, d, "a", "1234", "")
	wantNo(t, d.SyncDir(), d.Create("b"), d.SyncDir(), d.Remove("a"), d.Append("b", []byte("56")), d.Sync("b"))
	d.Restart(0, 0)
	if d.Used() != 6 {
		t.Error(d.Used())
	}
	wantErr(t, "one byte, more than the room used", d, api.ErrFull, func() api.Errno { return d.Append("a", []byte("x")) })
	wantErr(t, "no byte, more than the room used", d, api.ErrFull, func() api.Errno { return d.Append("a", nil) })
	wantNo(t, d.Cut("a", 2), d.Append("a", nil))
}

func TestCut(t *testing.T) {
	for _, c := range []struct {
		n    int
		want string
	}{{0, ""}, {1, "1"}, {2, "12"}, {3, "123"}} {
		d := two(t)
		wantNo(t, d.Cut("a", c.n))
		wantRead(t, d, "a", c.want)
		wantRead(t, d, "b", "456")
	}
	d := two(t)
	for _, n := range []int{4, 5, math.MaxInt, -1, -3, math.MinInt} {
		wantErr(t, "Cut", d, api.ErrArgument, func() api.Errno { return d.Cut("a", n) })
	}
	wantRead(t, d, "a", "123")
	wantNo(t, d.Create("c"), d.Cut("c", 0))
	wantErr(t, "Cut of a file without bytes", d, api.ErrArgument, func() api.Errno { return d.Cut("c", 1) })
	wantNo(t, d.Cut("a", 1))
	wantErr(t, "Cut at a length that it had", d, api.ErrArgument, func() api.Errno { return d.Cut("a", 2) })
}

func TestCutLeavesSafeBytesSafe(t *testing.T) {
	for _, c := range []struct {
		n    int
		want string
	}{{0, ""}, {2, "12"}, {3, "123"}, {4, "123"}, {5, "123"}} {
		d := Of(20)
		lay(t, d, "a", "123", "45")
		wantNo(t, d.SyncDir(), d.Cut("a", c.n), d.Append("a", []byte("xyz")))
		d.Restart(0, 0)
		wantRead(t, d, "a", c.want)
	}
}

func TestCutBytesAreGoneFromARestart(t *testing.T) {
	d := Of(20)
	lay(t, d, "a", "123", "45")
	wantNo(t, d.SyncDir(), d.Cut("a", 1))
	d.Restart(9, 9)
	wantRead(t, d, "a", "1")
	wantNo(t, d.Append("a", []byte("x")))
	wantRead(t, d, "a", "1x")
}

func TestSyncIsOfOneFile(t *testing.T) {
	d := two(t)
	wantNo(t, d.Sync("a"), d.Append("a", []byte("x")))
	d.Restart(0, 0)
	if said(d) != "a=123 b=4" {
		t.Error(said(d))
	}
}

func TestSyncIsNotOfNames(t *testing.T) {
	d := Of(20)
	lay(t, d, "a", "abc", "")
	wantNo(t, d.Sync("a"))
	d.Restart(0, 9)
	wantNames(t, d)
}

func TestSyncDirIsNotOfBytes(t *testing.T) {
	d := Of(20)
	wantNo(t, d.Create("a"), d.Append("a", []byte("abc")), d.SyncDir())
	d.Restart(0, 0)
	wantRead(t, d, "a", "")
}

func TestSyncDirLeavesNothingPending(t *testing.T) {
	d := two(t)
	wantNo(t, d.Remove("a"), d.Create("c"), d.SyncDir())
	for _, names := range []int{0, 1, 2, 9} {
		d.Restart(names, 9)
		wantNames(t, d, "b", "c")
	}
	wantNo(t, d.Rename("c", "d"), d.SyncDir(), d.SyncDir(), d.Remove("b"))
	d.Restart(0, 9)
	wantNames(t, d, "b", "d")
}

func TestSafeNamesStayWhileOthersChange(t *testing.T) {
	d := two(t)
	wantNo(t, d.Create("c"), d.Rename("b", "d"), d.Remove("a"), d.Create("a"), d.Append("a", []byte("x")))
	d.Restart(0, 9)
	if said(d) != "a=123 b=456" {
		t.Error(said(d))
	}
	wantNo(t, d.Remove("a"))
	d.Restart(0, 9)
	if said(d) != "a=123 b=456" {
		t.Error(said(d))
	}
}

func TestRename(t *testing.T) {
	d := two(t)
	wantErr(t, "to itself", d, api.ErrArgument, func() api.Errno { return d.Rename("a", "a") })
	wantNo(t, d.Rename("a", ""))
	if said(d) != "=123 b=456" {
		t.Error(said(d))
	}
	wantNo(t, d.Append("", []byte("x")), d.Rename("", "b"))
	if said(d) != "b=123x" {
		t.Error(said(d))
	}
	wantNo(t, d.Create("a"), d.Rename("b", "a"), d.Rename("a", "b"))
	if said(d) != "b=123x" {
		t.Error(said(d))
	}
}

func TestRenameIsOneChange(t *testing.T) {
	for names, want := range []string{"a=123 b=456", "b=123", "c=123", "c=123 d="} {
		d := two(t)
		wantNo(t, d.Rename("a", "b"), d.Rename("b", "c"), d.Create("d"))
		d.Restart(names, 9)
		if said(d) != want {
			t.Errorf("%d names: %s, not %s", names, said(d), want)
		}
	}
}

func TestAFileKeepsWhatIsSafeByAnotherName(t *testing.T) {
	for names, name := range []string{"a", "c"} {
		d := two(t)
		wantNo(t, d.Rename("a", "c"), d.Sync("c"), d.Append("c", []byte("xy")))
		d.Restart(names, 1)
		wantRead(t, d, name, "123x")
	}
}

func TestRemove(t *testing.T) {
	d := two(t)
	wantNo(t, d.Remove("a"))
	wantErr(t, "again", d, api.ErrUnknown, func() api.Errno { return d.Remove("a") })
	wantNo(t, d.Create("a"))
	if said(d) != "a= b=456" {
		t.Error(said(d))
	}
}

func TestFilesOfOneNameAreApart(t *testing.T) {
	for names, want := range []string{"a=12 b=45", "b=45", "a=xy b=45", "b=45", "a=z b=45", "a=z b=45"} {
		d := two(t)
		wantNo(t, d.Remove("a"), d.Create("a"), d.Append("a", []byte("xy")), d.Sync("a"), d.Remove("a"), d.Create("a"), d.Append("a", []byte("z")))
		d.Restart(names, 1)
		if said(d) != want {
			t.Errorf("%d names: %s, not %s", names, said(d), want)
		}
	}
}

// P4.3

func TestCalls(t *testing.T) {
	d := two(t)
	before := d.Calls()
	if before != 9 {
		t.Errorf("%d calls, not 9", before)
	}
	for _, c := range changes {
		d := two(t)
		if e := c.call(d); e != 0 || d.Calls() != before+1 {
			t.Errorf("%s: error %d, %d calls", c.what, e, d.Calls())
		}
	}
	d.Names()
	d.Used()
	d.Down()
	d.Read("a")
	d.Read("x")
	d.Arm(5)
	d.Flip("a", 0, 1)
	d.Restart(1, 1)
	if d.Calls() != before {
		t.Errorf("%d calls, not %d", d.Calls(), before)
	}
}

func TestErrorsAreNotCountedWhenArmed(t *testing.T) {
	d := two(t)
	d.Arm(0)
	for range 3 {
		wantErr(t, "Create", d, api.ErrExist, func() api.Errno { return d.Create("a") })
		wantErr(t, "Append", d, api.ErrFull, func() api.Errno { return d.Append("a", make([]byte, 10)) })
		wantErr(t, "Cut", d, api.ErrArgument, func() api.Errno { return d.Cut("a", 4) })
		wantErr(t, "Sync", d, api.ErrUnknown, func() api.Errno { return d.Sync("x") })
		wantErr(t, "Rename", d, api.ErrArgument, func() api.Errno { return d.Rename("a", "a") })
		wantErr(t, "Remove", d, api.ErrUnknown, func() api.Errno { return d.Remove("x") })
	}
	wantRead(t, d, "a", "123")
	if e := d.Sync("a"); e != api.ErrCrash || !d.Down() {
		t.Error(e, d.Down())
	}
}

func TestArm(t *testing.T) {
	for n := range 12 {
		d := two(t)
		before := d.Calls()
		d.Arm(n)
		for range n {
			wantNo(t, d.Append("a", nil))
		}
		if d.Down() {
			t.Errorf("Arm(%d): down too early", n)
		}
		if e := d.SyncDir(); e != api.ErrCrash || !d.Down() || d.Calls() != before+n+1 {
			t.Errorf("Arm(%d): error %d, down %v, %d calls", n, e, d.Down(), d.Calls())
		}
	}
}

func TestArmThatDoesNotStop(t *testing.T) {
	for _, n := range []int{-1, -2, math.MinInt, math.MaxInt, math.MaxInt - 1} {
		d := two(t)
		d.Arm(n)
		for range 100 {
			wantNo(t, d.Sync("a"))
		}
		if d.Down() {
			t.Errorf("Arm(%d)", n)
		}
	}
}

func TestArmAgain(t *testing.T) {
	d := two(t)
	d.Arm(1)
	wantNo(t, d.Sync("a"))
	d.Arm(2)
	wantNo(t, d.Sync("a"), d.Sync("a"))
	d.Arm(-1)
	wantNo(t, d.Sync("a"), d.Sync("a"), d.Sync("a"))
	d.Arm(5)
	d.Arm(0)
	if e := d.Sync("a"); e != api.ErrCrash {
		t.Error(e)
	}
}

func TestStopHasNoOtherEffect(t *testing.T) {
	for _, c := range changes {
		for _, names := range []int{0, 9} {
			d := two(t)
			wantNo(t, d.Create("c"), d.Remove("c"))
			before := d.Calls()
			d.Arm(0)
			if e := c.call(d); e != api.ErrCrash || !d.Down() || d.Calls() != before+1 {
				t.Errorf("%s: error %d, down %v, %d calls", c.what, e, d.Down(), d.Calls())
			}
			wantNames(t, d, "a", "b")
			d.Restart(names, 0)
			if said(d) != "a=1 b=4" {
				t.Errorf("%s: %s", c.what, said(d))
			}
		}
	}
}

func TestSyncDirThatStops(t *testing.T) {
	for names, want := range []string{"a=1 b=4", "b=4", "b=4 c="} {
		d := two(t)
		wantNo(t, d.Remove("a"), d.Create("c"))
		d.Arm(0)
		if e := d.SyncDir(); e != api.ErrCrash {
			t.Error(e)
		}
		d.Restart(names, 0)
		if said(d) != want {
			t.Errorf("%d names: %s, not %s", names, said(d), want)
		}
	}
}

func TestAppendThatStops(t *testing.T) {
	for bytes, want := range []string{"123", "123x", "123xy", "123xyz", "123xyz"} {
		d := two(t)
		wantNo(t, d.Sync("a"))
		d.Arm(0)
		if e := d.Append("a", []byte("xyz")); e != api.ErrCrash || d.Used() != 9 {
			t.Errorf("error %d, %d bytes", e, d.Used())
		}
		d.Restart(0, bytes)
		wantRead(t, d, "a", want)
	}
}

func TestCutAndSyncThatStop(t *testing.T) {
	d := two(t)
	d.Arm(0)
	if e := d.Cut("a", 0); e != api.ErrCrash || d.Used() != 6 {
		t.Error(e, d.Used())
	}
	d.Restart(0, 9)
	wantRead(t, d, "a", "123")

	d = two(t)
	d.Arm(0)
	if e := d.Sync("a"); e != api.ErrCrash {
		t.Error(e)
	}
	d.Restart(0, 0)
	wantRead(t, d, "a", "1")
}

func TestDown(t *testing.T) {
	d := two(t)
	d.Arm(0)
	d.Append("a", []byte("x"))
	for range 2 {
		for _, c := range changes {
			wantErr(t, c.what, d, api.ErrCrash, func() api.Errno { return c.call(d) })
		}
		wantNames(t, d, "a", "b")
		if d.Used() != 7 || !d.Flip("b", 2, 0) || d.Flip("b", 3, 0) {
			t.Error(d.Used())
		}
		d.Arm(-1)
		d.Arm(3)
	}
}

// P4.4

func TestNamesOfARestart(t *testing.T) {
	for _, c := range []struct {
		names int
		want  string
	}{
		{math.MinInt, "a=123 b=456"}, {-1, "a=123 b=456"}, {0, "a=123 b=456"}, {1, "a=123 b=456 c="}, {2, "b=456 c="},
		{3, "b=456 d="}, {4, "b="}, {5, ""}, {6, ""}, {math.MaxInt, ""},
	} {
		d := two(t)
		wantNo(t, d.Create("c"), d.Remove("a"), d.Rename("c", "d"), d.Rename("d", "b"), d.Remove("b"))
		d.Restart(c.names, 9)
		if said(d) != c.want {
			t.Errorf("%d names: %s, not %s", c.names, said(d), c.want)
		}
		for range 2 {
			d.Restart(9, 9)
			if said(d) != c.want {
				t.Errorf("%d names, again: %s, not %s", c.names, said(d), c.want)
			}
			d.Restart(0, 0)
		}
	}
}

func TestBytesOfARestart(t *testing.T) {
	for _, c := range []struct {
		bytes int
		want  string
	}{
		{math.MinInt, "a=1 b=4"}, {-1, "a=1 b=4"}, {0, "a=1 b=4"}, {1, "a=12 b=45"}, {2, "a=123 b=456"}, {3, "a=123 b=456x"}, {4, "a=123 b=456xy"},
		{5, "a=123 b=456xy"}, {math.MaxInt - 1, "a=123 b=456xy"}, {math.MaxInt, "a=123 b=456xy"},
	} {
		d := two(t)
		wantNo(t, d.Append("b", []byte("xy")))
		d.Restart(0, c.bytes)
		if said(d) != c.want {
			t.Errorf("%d bytes: %s, not %s", c.bytes, said(d), c.want)
		}
		d.Restart(0, 0)
		if said(d) != c.want {
			t.Errorf("%d bytes, again: %s, not %s", c.bytes, said(d), c.want)
		}
	}
}

func TestBytesOfAFileThatComesBack(t *testing.T) {
	d := two(t)
	wantNo(t, d.Append("a", []byte("xyz")), d.Remove("a"))
	d.Restart(0, 3)
	if said(d) != "a=123x b=456" {
		t.Error(said(d))
	}
}

func TestBytesBehindARestartAreNotSafe(t *testing.T) {
	d := two(t)
	d.Restart(0, 1)
	wantNo(t, d.Append("a", []byte("xy")))
	d.Restart(0, 1)
	if said(d) != "a=12x b=45" {
		t.Error(said(d))
	}
}

func TestNamesBehindARestartAreNotSafe(t *testing.T) {
	for names, want := range []string{"a=1 b=4 c=", "b=4 c=", "b=4 d="} {
		d := two(t)
		wantNo(t, d.Create("c"), d.Remove("b"))
		d.Restart(1, 0)
		wantNo(t, d.Remove("a"), d.Rename("c", "d"))
		d.Restart(names, 0)
		if said(d) != want {
			t.Errorf("%d names: %s, not %s", names, said(d), want)
		}
	}
}

func TestARestartedDiskDoesNotStop(t *testing.T) {
	d := two(t)
	d.Arm(0)
	if d.SyncDir() != api.ErrCrash || !d.Down() {
		t.Fatal("it did not stop")
	}
	d.Restart(0, 9)
	if d.Down() {
		t.Error("down")
	}
	wantNo(t, d.SyncDir(), d.Sync("a"))
	d.Arm(2)
	wantNo(t, d.SyncDir())
	d.Restart(0, 9)
	for range 10 {
		wantNo(t, d.SyncDir())
	}
	d.Arm(0)
	d.Sync("a")
	d.Arm(0)
	d.Restart(0, 9)
	wantNo(t, d.SyncDir(), d.Sync("a"))
	if d.Down() || said(d) != "a=123 b=456" {
		t.Error(d.Down(), said(d))
	}
}

func TestRestartOfAnEmptyDisk(t *testing.T) {
	for _, n := range []int{math.MinInt, -1, 0, 1, math.MaxInt} {
		d := Of(3)
		d.Restart(n, n)
		wantNames(t, d)
		wantNo(t, d.Create("a"), d.Append("a", []byte("abc")))
		wantRead(t, d, "a", "abc")
	}
}

func TestExample(t *testing.T) {
	d := Of(10)
	wantNo(t, d.Create("a"), d.Append("a", []byte("abc")), d.Sync("a"))
	d.Restart(0, 9)
	wantNames(t, d)
	if d.Used() != 0 {
		t.Error(d.Used())
	}
}

// P4.5

func TestFlip(t *testing.T) {
	d := two(t)
	before := d.Calls()
	for _, c := range []struct {
		name string
		at   int
		ok   bool
	}{
		{"a", 0, true}, {"a", 2, true}, {"b", 1, true}, {"a", 3, false}, {"a", 4, false}, {"a", math.MaxInt, false}, {"a", -1, false},
		{"a", math.MinInt, false}, {"x", 0, false}, {"", 0, false},
	} {
		for _, bits := range []byte{0, 1, 0x80, 0xff} {
			want := said(d)
			if c.ok {
				b, _ := d.Read(c.name)
				old := string(b)
				b[c.at] ^= bits
				want = strings.Replace(want, c.name+"="+old, c.name+"="+string(b), 1)
			}
			if got := d.Flip(c.name, c.at, bits); got != c.ok || said(d) != want {
				t.Errorf("%q at %d, %x: %v, %q, not %q", c.name, c.at, bits, got, said(d), want)
			}
		}
	}
	if d.Calls() != before {
		t.Errorf("Flip is counted: %d", d.Calls())
	}
}

func TestFlipOfAFileWithoutBytes(t *testing.T) {
	d := Of(5)
	wantNo(t, d.Create("a"))
	if d.Flip("a", 0, 1) {
		t.Error("a byte of none")
	}
	wantNo(t, d.Append("a", []byte("abc")), d.Cut("a", 1))
	if d.Flip("a", 1, 1) || !d.Flip("a", 0, 3) {
		t.Error("behind Cut")
	}
	wantRead(t, d, "a", "b")
}

func TestFlipIsNoCall(t *testing.T) {
	d := two(t)
	d.Arm(0)
	if !d.Flip("a", 0, 3) || d.Down() || !d.Flip("a", 2, 3) {
		t.Error("Flip of an armed disk")
	}
	wantRead(t, d, "a", "220")
	d.Restart(0, 1)
	wantRead(t, d, "a", "22")
	d.Arm(0)
	d.SyncDir()
	if !d.Flip("a", 1, 3) {
		t.Error("Flip of a disk that is down")
	}
	d.Restart(0, 0)
	wantRead(t, d, "a", "21")
}

func TestFlipAgainIsUndone(t *testing.T) {
	d := Of(300)
	all := make([]byte, 256)
	for k := range all {
		all[k] = byte(k)
	}
	wantNo(t, d.Create("a"), d.Append("a", all))
	for k := range all {
		bits := byte(7 * k)
		d.Flip("a", k, bits)
		if b, _ := d.Read("a"); b[k] != byte(k)^bits {
			t.Errorf("%d: %x", k, b[k])
		}
		d.Flip("a", k, bits)
	}
	if b, _ := d.Read("a"); !bytes.Equal(b, all) {
		t.Errorf("%x", b)
	}
}

// W1

func TestAZeroDiskIsOneWithoutRoom(t *testing.T) {
	d, s := &Disk{}, slowOf(0)
	for _, c := range []call{
		{op: opRestart, n: 1, m: 1}, {op: opFlip, name: "a"}, {op: opSyncDir}, {op: opCreate, name: "a"}, {op: opAppend, name: "a", text: "x"},
		{op: opAppend, name: "a"}, {op: opRename, name: "a", to: "b"}, {op: opRestart, n: 1}, {op: opRemove, name: "a"}, {op: opArm}, {op: opSyncDir},
	} {
		both(t, d, s, c)
	}
}
