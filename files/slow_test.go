package files

import (
	"fmt"
	"maps"
	"math"
	"math/rand/v2"
	"slices"
	"testing"

	"tephra/api"
)

// slowFile is a file of the slow disk: its bytes as a text, and how many are safe.
type slowFile struct {
	data string
	safe int
}

// slowDisk is a disk from the promises' words, made otherwise than Disk: files are numbers in a list that only grows, and all names that there were since they were safe are kept, each set whole.
type slowDisk struct {
	room  int
	files []slowFile
	steps []map[string]int // the safe names, and the names behind each pending change; the last are the current ones
	calls int
	stop  *int // how many counted calls there were ahead of the one at which it stops
	down  bool
}

func slowOf(room int) *slowDisk {
	if room < 0 {
		room = 0
	}
	return &slowDisk{room: room, steps: []map[string]int{{}}}
}

func (s *slowDisk) current() map[string]int { return s.steps[len(s.steps)-1] }

func (s *slowDisk) names() []string { return slices.Sorted(maps.Keys(s.current())) }

func (s *slowDisk) used() int {
	n := 0
	for _, k := range s.current() {
		n += len(s.files[k].data)
	}
	return n
}

// counted counts a call that would have no error, and has it take effect unless the disk stops at it.
func (s *slowDisk) counted(effect func()) api.Errno {
	s.calls++
	if s.stop != nil && *s.stop == s.calls-1 {
		s.down = true
		return api.ErrCrash
	}
	effect()
	return 0
}

func (s *slowDisk) arm(n int) {
	s.stop = nil
	if n >= 0 && n < math.MaxInt-s.calls {
		at := s.calls + n
		s.stop = &at
	}
}

// step adds the names behind one more change.
func (s *slowDisk) step(change func(map[string]int)) api.Errno {
	return s.counted(func() {
		next := maps.Clone(s.current())
		change(next)
		s.steps = append(s.steps, next)
	})
}

func (s *slowDisk) do(c call) api.Errno {
	k, ok := s.current()[c.name]
	exempt := c.op == opCreate || c.op == opSyncDir
	switch {
	case s.down:
		return api.ErrCrash
	case !ok && !exempt:
		return api.ErrUnknown
	}
	switch c.op {
	case opCreate:
		if ok {
			return api.ErrExist
		}
		if len(s.current()) == 64 {
			return api.ErrFull
		}
		s.files = append(s.files, slowFile{})
		return s.step(func(m map[string]int) { m[c.name] = len(s.files) - 1 })
	case opAppend:
		if len(c.text)+s.used() > s.room {
			return api.ErrFull
		}
		s.files[k].data += c.text
		return s.counted(func() {})
	case opCut:
		if c.n < 0 || c.n > len(s.files[k].data) {
			return api.ErrArgument
		}
		return s.counted(func() { s.files[k] = slowFile{s.files[k].data[:c.n], min(s.files[k].safe, c.n)} })
	case opSync:
		return s.counted(func() { s.files[k].safe = len(s.files[k].data) })
	case opSyncDir:
		return s.counted(func() { s.steps = s.steps[len(s.steps)-1:] })
	case opRename:
		if c.name == c.to {
			return api.ErrArgument
		}
		return s.step(func(m map[string]int) { delete(m, c.name); m[c.to] = k })
	default:
		return s.step(func(m map[string]int) { delete(m, c.name) })
	}
}

func (s *slowDisk) restart(names, bytes int) {
	k := 0
	for k < names && k < len(s.steps)-1 {
		k++
	}
	s.steps = s.steps[k : k+1]
	for _, k := range s.current() {
		f := &s.files[k]
		for more := bytes; more > 0 && f.safe < len(f.data); more-- {
			f.safe++
		}
		f.data = f.data[:f.safe]
	}
	s.stop, s.down = nil, false
}

func (s *slowDisk) flip(name string, at int, bits byte) bool {
	k, ok := s.current()[name]
	if !ok || at < 0 || at >= len(s.files[k].data) {
		return false
	}
	b := []byte(s.files[k].data)
	b[at] ^= bits
	s.files[k].data = string(b)
	return true
}

// The calls of P4.2, and those beside them.
const (
	opCreate = iota
	opAppend
	opCut
	opSync
	opSyncDir
	opRename
	opRemove
	opArm
	opRestart
	opFlip
	ops
)

// call is one call, and its arguments.
type call struct {
	op   int
	name string
	to   string
	text string
	n    int
	m    int
}

func (c call) String() string {
	word := []string{"Create", "Append", "Cut", "Sync", "SyncDir", "Rename", "Remove", "Arm", "Restart", "Flip"}[c.op]
	return fmt.Sprintf("%s(%q, %q, %q, %d, %d)", word, c.name, c.to, c.text, c.n, c.m)
}

// make42 makes one of the calls of P4.2.
func make42(d *Disk, c call) api.Errno {
	switch c.op {
	case opCreate:
		return d.Create(c.name)
	case opAppend:
		return d.Append(c.name, []byte(c.text))
	case opCut:
		return d.Cut(c.name, c.n)
	case opSync:
		return d.Sync(c.name)
	case opSyncDir:
		return d.SyncDir()
	case opRename:
		return d.Rename(c.name, c.to)
	default:
		return d.Remove(c.name)
	}
}

// both makes a call on both disks, and fails if their answers, or what is then to be seen of them, differ.
func both(t *testing.T, d *Disk, s *slowDisk, c call) {
	t.Helper()
	switch c.op {
	case opArm:
		d.Arm(c.n)
		s.arm(c.n)
	case opRestart:
		d.Restart(c.n, c.m)
		s.restart(c.n, c.m)
	case opFlip:
		if got, want := d.Flip(c.name, c.n, byte(c.m)), s.flip(c.name, c.n, byte(c.m)); got != want {
			t.Fatalf("%v: %v, not %v", c, got, want)
		}
	default:
		if got, want := make42(d, c), s.do(c); got != want {
			t.Fatalf("%v: error %d, not %d", c, got, want)
		}
	}
	wantSlow(t, c, d, s)
}

// wantSlow fails if anything that is to be seen of a disk is otherwise than on the slow one.
func wantSlow(t *testing.T, c call, d *Disk, s *slowDisk) {
	t.Helper()
	if !slices.Equal(d.Names(), s.names()) {
		t.Fatalf("%v: names %q, not %q", c, d.Names(), s.names())
	}
	if d.Used() != s.used() || d.Down() != s.down || d.Calls() != s.calls {
		t.Fatalf("%v: used %d, down %v, calls %d, not %d, %v, %d", c, d.Used(), d.Down(), d.Calls(), s.used(), s.down, s.calls)
	}
	for _, name := range append(s.names(), "no file's") {
		b, e := d.Read(name)
		k, ok := s.current()[name]
		switch {
		case s.down:
			ok = e == api.ErrCrash && len(b) == 0
		case !ok:
			ok = e == api.ErrUnknown && len(b) == 0
		default:
			ok = e == 0 && string(b) == s.files[k].data
		}
		if !ok {
			t.Fatalf("%v: %q is %q, error %d", c, name, b, e)
		}
	}
}

// callOf makes a call of five numbers, so that few names and small numbers come often.
func callOf(op, name, to, n, m byte) call {
	names := []string{"a", "b", "c", "", "J", "\xff"}
	few := []int{0, 1, 2, 3, 4, 5, 6, 7, 8, 12, 20, -1, -7, math.MaxInt, math.MinInt, math.MaxInt - 1}
	texts := []string{"", "x", "yz", "123", "\x00\xff", "abcdefgh"}
	return call{
		op:   int(op) % ops,
		name: names[int(name)%len(names)],
		to:   names[int(to)%len(names)],
		text: texts[int(to)%len(texts)],
		n:    few[int(n)%len(few)],
		m:    few[int(m)%len(few)],
	}
}

// TestAsThePromisesSay makes many rows of calls, the same ones each time. Restart and Arm come seldom enough for changes to heap up.
func TestAsThePromisesSay(t *testing.T) {
	r := rand.New(rand.NewPCG(4, 4))
	for range 2000 {
		room := r.IntN(60) - 5
		d, s := Of(room), slowOf(room)
		for range 80 {
			c := callOf(byte(r.IntN(opArm)), byte(r.IntN(6)), byte(r.IntN(6)), byte(r.IntN(16)), byte(r.IntN(16)))
			switch r.IntN(16) {
			case 0:
				c.op = opRestart
			case 1:
				c.op = opArm
			case 2:
				c.op = opFlip
			case 3, 4:
				c.op = opCreate
			case 5, 6, 7:
				c.op = opAppend
			}
			both(t, d, s, c)
			if s.down && r.IntN(3) == 0 {
				both(t, d, s, call{op: opRestart, n: r.IntN(6), m: r.IntN(6)})
			}
		}
	}
}

// TestEveryStop has the disk stop at each call of a longer row, and start again with each number of names and of bytes.
func TestEveryStop(t *testing.T) {
	row := []call{
		{op: opCreate, name: "a"}, {op: opAppend, name: "a", text: "abc"}, {op: opSync, name: "a"}, {op: opSyncDir},
		{op: opAppend, name: "a", text: "de"}, {op: opCreate, name: "t"}, {op: opAppend, name: "t", text: "new"}, {op: opSync, name: "t"},
		{op: opAppend, name: "t", text: "er"}, {op: opRename, name: "t", to: "a"}, {op: opCut, name: "a", n: 4}, {op: opCreate, name: "b"},
		{op: opRename, name: "b", to: "c"}, {op: opRemove, name: "a"}, {op: opCreate, name: "a"}, {op: opAppend, name: "a", text: "third"},
		{op: opRemove, name: "c"}, {op: opSyncDir}, {op: opRename, name: "a", to: "d"}, {op: opCut, name: "d", n: 0},
	}
	for stop := range len(row) + 1 {
		for names := -1; names <= 9; names++ {
			for bytes := -1; bytes <= 6; bytes++ {
				d, s := Of(20), slowOf(20)
				both(t, d, s, call{op: opArm, n: stop})
				for _, c := range row {
					both(t, d, s, c)
				}
				if d.Down() != (stop < len(row)) {
					t.Fatal(stop, d.Down())
				}
				both(t, d, s, call{op: opRestart, n: names, m: bytes})
				for _, c := range row {
					both(t, d, s, c)
				}
				both(t, d, s, call{op: opRestart, n: 2, m: 0})
			}
		}
	}
}

// FuzzDisk holds a disk against the slow one, for any row of calls.
func FuzzDisk(f *testing.F) {
	f.Add(10, []byte{0, 0, 0, 0, 0, 1, 0, 3, 0, 0, 8, 0, 0, 0, 9})
	f.Add(-1, []byte{7, 0, 0, 1, 0, 0, 1, 0, 0, 0, 5, 1, 2, 0, 0, 8, 0, 0, 1, 1})
	f.Add(40, []byte{0, 0, 0, 0, 0, 4, 0, 0, 0, 0, 6, 0, 0, 0, 0, 0, 0, 0, 0, 0, 1, 0, 5, 0, 0, 8, 0, 0, 1, 13})
	f.Fuzz(func(t *testing.T, room int, calls []byte) {
		room %= 1 << 20
		d, s := Of(room), slowOf(room)
		for row := range slices.Chunk(calls, 5) {
			if len(row) == 5 {
				both(t, d, s, callOf(row[0], row[1], row[2], row[3], row[4]))
			}
		}
	})
}
