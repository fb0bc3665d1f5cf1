package vault

import (
	"bytes"
	"fmt"
	"math"
	"slices"
	"strings"
	"testing"

	"tephra/api"
	"tephra/delta"
	"tephra/edits"
	"tephra/files"
	"tephra/frame"
	"tephra/image"
	"tephra/state"
)

// million is the greatest index, as the document writes it.
const million = 1 << 20

// numbers are ordinary ones, those at the edges, and wrong ones.
var numbers = []int{math.MinInt, math.MinInt + 1, -1 << 32, -million, -2, -1, 0, 1, 2, 7, 255, 256, million - 1, million, million + 1, 1 << 32, 1<<32 + 1, math.MaxInt - 1, math.MaxInt}

// put has a disk have a file, all of it safe.
func put(t *testing.T, d *files.Disk, name string, b []byte) {
	t.Helper()
	if e := d.Create(name); e != 0 {
		t.Fatalf("%q: %v", name, e)
	}
	if d.Append(name, b) != 0 || d.Sync(name) != 0 || d.SyncDir() != 0 {
		t.Fatalf("%q has no room", name)
	}
}

// set has a file have other bytes.
func set(t *testing.T, d *files.Disk, name string, b []byte) {
	t.Helper()
	if d.Cut(name, 0) != 0 || d.Append(name, b) != 0 || d.Sync(name) != 0 {
		t.Fatalf("%q is not changed", name)
	}
}

func read(t *testing.T, d *files.Disk, name string) []byte {
	t.Helper()
	b, e := d.Read(name)
	if e != 0 {
		t.Fatalf("%q: %v", name, e)
	}
	return b
}

// contents are all files of a disk.
func contents(t *testing.T, d *files.Disk) map[string]string {
	t.Helper()
	all := map[string]string{}
	for _, name := range d.Names() {
		all[name] = string(read(t, d, name))
	}
	return all
}

func open(t *testing.T, d *files.Disk) *Vault {
	t.Helper()
	v, e := Open(d)
	if v == nil || e != 0 {
		t.Fatalf("it is not opened: %v", e)
	}
	return v
}

// wantNot wants a disk not to be opened, and not to be changed by that.
func wantNot(t *testing.T, d *files.Disk, want api.Errno) {
	t.Helper()
	before, calls := contents(t, d), d.Calls()
	v, e := Open(d)
	if v != nil || e != want {
		t.Fatalf("%v, %v, not %v", v, e, want)
	}
	if d.Calls() != calls || fmt.Sprint(contents(t, d)) != fmt.Sprint(before) {
		t.Fatalf("%d calls", d.Calls()-calls)
	}
}

// scene is a vault on a disk, and what it should be. One that is quick is not looked at behind each call.
type scene struct {
	t     *testing.T
	disk  *files.Disk
	v     *Vault
	p     picture
	quick bool
}

func begin(t *testing.T) *scene {
	t.Helper()
	d := files.Of(40000)
	return &scene{t: t, disk: d, v: open(t, d), p: first()}
}

func quick(t *testing.T) *scene {
	t.Helper()
	s := begin(t)
	s.quick = true
	return s
}

// next is the entry behind all.
func (s *scene) next() api.Entry {
	n := s.p.last + 1
	x := api.Entry{Index: n, Term: s.p.state().Term, Cmd: api.Cmd{Op: api.Put, Client: n % 4, Seq: n, Key: string(rune('a' + n%5)), Value: fmt.Sprint(n)}}
	if n%4 == 3 {
		x.Cmd.Op = api.Del
	}
	return x
}

func (s *scene) op(call string) op {
	later := s.p.state()
	later.Index += 3
	later.Term++
	return op{call: call, entry: s.next(), floor: s.p.set.Floor + 1, state: later}
}

// do executes calls that have no error.
func (s *scene) do(calls ...string) *scene {
	s.t.Helper()
	for _, call := range calls {
		s.must(s.op(call))
	}
	return s
}

func (s *scene) must(o op) {
	s.t.Helper()
	s.want(o, 0)
}

func (s *scene) apply(n int) *scene {
	s.t.Helper()
	for range n {
		s.do("Apply")
	}
	return s
}

func (s *scene) retain(floor int) *scene {
	s.t.Helper()
	s.must(op{call: "Retain", floor: floor})
	return s
}

// want executes a call, holds it against what it should do, and wants an error, with which no call of the disk is counted.
func (s *scene) want(o op, wrong api.Errno) {
	s.t.Helper()
	calls := s.disk.Calls()
	reply, e := o.do(s.v)
	q, told, should := s.p.after(o, s.v.Set())
	if should != wrong {
		s.t.Fatalf("%+v of %s should be %v, not %v", o, s.p, should, wrong)
	}
	s.p = q
	if e != wrong || reply != told {
		s.t.Fatalf("%+v of %s: %+v, %v, not %+v, %v", o, s.p, reply, e, told, wrong)
	}
	if (e != 0) != (s.disk.Calls() == calls) {
		s.t.Fatalf("%+v of %s: %v and %d calls", o, s.p, e, s.disk.Calls()-calls)
	}
	if !s.quick {
		holdVault(s.t, s.disk, s.v, s.p)
	}
}

// wantError is a call with an error that is not among those of its picture.
func (s *scene) wantError(call string, want api.Errno) {
	s.t.Helper()
	if reply, e := s.op(call).do(s.v); e != want || reply != (api.Reply{}) {
		s.t.Fatalf("%s: %+v, %v, not %v", call, reply, e, want)
	}
	if !s.p.is(s.v) {
		s.t.Fatalf("%s: %s, not %s", call, toldVault(s.v), s.p)
	}
}

func (s *scene) hold() *scene {
	s.t.Helper()
	holdAll(s.t, s.disk, s.v, s.p)
	return s
}

// rich is a vault with files of all kinds: p1 up to 8, p2 up to 16, p3 behind it, f1 of 3, and d1, d2, d3 from 3 over 6 and 10 to 18.
func rich(t *testing.T) *scene {
	t.Helper()
	return begin(t).apply(3).do("Full").apply(3).do("Delta").apply(4).do("Delta").apply(8).do("Delta").apply(1)
}

func TestRich(t *testing.T) {
	s := rich(t).hold()
	if len(s.p.set.Refs) != 7 || s.p.last != 19 {
		t.Error(s.p)
	}
}

// P12.1

func TestOpenOfADiskThatIsDown(t *testing.T) {
	empty := files.Of(1000)
	for _, d := range []*files.Disk{empty, rich(t).disk} {
		d.Arm(0)
		if d.Create("x") != api.ErrCrash {
			t.Fatal("it is not down")
		}
		calls := d.Calls()
		if v, e := Open(d); v != nil || e != api.ErrCrash || d.Calls() != calls {
			t.Errorf("%v, %v", v, e)
		}
	}
}

// wantFirst wants a vault that has just begun.
func wantFirst(t *testing.T, d *files.Disk) *Vault {
	t.Helper()
	v := open(t, d)
	if got := v.Set(); got.Floor != 0 || !slices.Equal(got.Refs, []api.Ref{{Name: "p1", Kind: 2}}) {
		t.Fatalf("%+v", got)
	}
	if got := v.State(); got.Index != 0 || got.Term != 0 || len(got.Pairs) != 0 || len(got.Sessions) != 0 {
		t.Fatalf("%+v", got)
	}
	if names := d.Names(); !slices.Equal(names, []string{"J", "p1"}) || v.Broken() {
		t.Fatalf("%q, %v", names, v.Broken())
	}
	holdAll(t, d, v, first())
	d.Restart(0, 0)
	holdAll(t, d, v, first())
	return v
}

func TestOpenOfAnEmptyDisk(t *testing.T) {
	wantFirst(t, files.Of(1000))
}

func TestOpenWithoutAJournal(t *testing.T) {
	d := files.Of(1000)
	put(t, d, "x", []byte("some bytes"))
	wantFirst(t, d)
	d = files.Of(1000)
	put(t, d, "t", frameOf(t, edits.All(first().set)))
	wantFirst(t, d)
	d = files.Of(1000)
	put(t, d, "p1", image.Part(0))
	put(t, d, "p2", image.Part(0))
	put(t, d, "t", []byte("t"))
	put(t, d, "", nil)
	d.Create("not safe")
	wantFirst(t, d)
	d = files.Of(1000)
	for n := range 64 {
		put(t, d, fmt.Sprint("p", n), []byte("full of files"))
	}
	if d.Create("J") != api.ErrFull {
		t.Fatal("there are less")
	}
	wantFirst(t, d)
}

// TestOpenOfWhatWas also has a file t, and others, which stay, and are not the vault's.
func TestOpenOfWhatWas(t *testing.T) {
	s := rich(t).retain(7)
	put(t, s.disk, "t", []byte("of a call that did not end"))
	put(t, s.disk, "p4", image.Part(19))
	put(t, s.disk, "j", nil)
	before := fmt.Sprint(contents(t, s.disk))
	holdOpen(t, s.disk, s.p)
	s.v = open(t, s.disk)
	s.hold()
	s.disk.Restart(0, 0)
	s.v = open(t, s.disk)
	s.hold()
	if fmt.Sprint(contents(t, s.disk)) != before {
		t.Error("files were changed")
	}
	s.apply(9).do("Full", "Collect", "Rewrite").hold()
}

func frameOf(t *testing.T, e edits.Edit) []byte {
	t.Helper()
	f, wrong := frame.Make(edits.Bytes(e))
	if wrong != 0 {
		t.Fatal(wrong)
	}
	return f
}

// tails are what may follow the last frame: the frame of b not whole, or wrong, or bytes that begin no frame; none of them begins with a whole frame.
func tails(f []byte) [][]byte {
	var all [][]byte
	for n := 1; n < len(f); n++ {
		all = append(all, f[:n])
	}
	for at := range f {
		for _, bits := range []byte{1, 0x80, 0xff} {
			wrong := bytes.Clone(f)
			wrong[at] ^= bits
			all = append(all, wrong, append(wrong, f...))
		}
	}
	return append(all, []byte{0}, []byte{0xe5}, []byte("a text that begins no frame"), bytes.Repeat([]byte{0xff}, 300), make([]byte, 300))
}

// wantCut wants a disk to be opened with so many counted calls, and be as it was ahead of what is left.
func wantCut(t *testing.T, s *scene, calls int, before string) {
	t.Helper()
	n := s.disk.Calls()
	v := open(t, s.disk)
	if s.disk.Calls()-n != calls {
		t.Fatalf("%d calls", s.disk.Calls()-n)
	}
	if !s.p.is(v) || fmt.Sprint(contents(t, s.disk)) != before {
		t.Fatalf("%s, not %s, or other bytes", toldVault(v), s.p)
	}
	holdOpen(t, s.disk, s.p)
}

func TestOpenCutsWhatFollows(t *testing.T) {
	t.Parallel()
	s := rich(t)
	before := fmt.Sprint(contents(t, s.disk))
	edit := tails(frameOf(t, edits.Edit{Add: []api.Ref{{Name: "p9", Kind: 2}}}))
	entry := tails(image.Entry(s.next()))
	for i := range max(len(edit), len(entry)) {
		a, b := edit[i%len(edit)], entry[i%len(entry)]
		s.disk.Append("J", a)
		wantCut(t, s, 1, before)
		s.disk.Append("p3", b)
		wantCut(t, s, 1, before)
		s.disk.Append("J", a)
		s.disk.Append("p3", b)
		wantCut(t, s, 2, before)
		s.disk.Append("J", a)
		s.disk.Append("p3", b)
		s.disk.Restart(0, 1<<20)
		wantCut(t, s, 2, before)
	}
	s.disk.Append("J", edit[9])
	s.disk.Append("p3", entry[9])
	s.v = open(t, s.disk)
	s.apply(9).do("Full").hold()
}

// TestOpenKeepsWhatFollowsElsewhere: only in these two files it is taken away.
func TestOpenKeepsWhatFollowsElsewhere(t *testing.T) {
	s := rich(t)
	for _, name := range []string{"p1", "p2"} {
		s.disk.Append(name, []byte("more"))
	}
	before := fmt.Sprint(contents(t, s.disk))
	calls := s.disk.Calls()
	v := open(t, s.disk)
	if !s.p.is(v) || s.disk.Calls() != calls || fmt.Sprint(contents(t, s.disk)) != before {
		t.Error(toldVault(v))
	}
}

// TestOpenUpToAWrongFrame alters each byte of the last edit, and of entries of the last part.
func TestOpenUpToAWrongFrame(t *testing.T) {
	s := begin(t).apply(3)
	n := len(read(t, s.disk, "J"))
	s.do("Full")
	j := read(t, s.disk, "J")
	for at := n; at < len(j); at++ {
		s.disk.Flip("J", at, 1)
		v := open(t, s.disk)
		if !sameSet(v.Set(), first().set) || !state.Same(v.State(), s.p.state()) || v.Verify() != "" {
			t.Fatalf("%d: %s", at, toldVault(v))
		}
		if !bytes.Equal(read(t, s.disk, "J"), j[:n]) {
			t.Fatalf("%d: J is not cut", at)
		}
		set(t, s.disk, "J", j)
	}
	p := read(t, s.disk, "p1")
	end := len(image.Part(0))
	for index := 1; index <= 3; index++ {
		start := end
		end += len(image.Entry(s.p.entries[index]))
		for at := start; at < end; at++ {
			s.disk.Flip("p1", at, 4)
			v := open(t, s.disk)
			if v.State().Index != index-1 || !state.Same(v.State(), s.p.states[index-1]) || !bytes.Equal(read(t, s.disk, "p1"), p[:start]) {
				t.Fatalf("%d: %s", at, toldVault(v))
			}
			set(t, s.disk, "p1", p)
		}
	}
}

// hand is a disk with a journal of edits, one behind the other, and files.
func hand(t *testing.T, all map[string][]byte, es ...edits.Edit) *files.Disk {
	t.Helper()
	d := files.Of(1 << 20)
	var j []byte
	for _, e := range es {
		j = append(j, frameOf(t, e)...)
	}
	put(t, d, "J", j)
	for name, b := range all {
		put(t, d, name, b)
	}
	return d
}

func full(name string, at int) api.Ref {
	return api.Ref{Name: name, Kind: api.Full, From: at, To: at}
}

func change(name string, from, to int) api.Ref {
	return api.Ref{Name: name, Kind: api.Delta, From: from, To: to}
}

func part(name string, from, to int) api.Ref {
	return api.Ref{Name: name, Kind: api.Part, From: from, To: to}
}

func add(refs ...api.Ref) edits.Edit {
	return edits.Edit{Add: refs}
}

// nop is an entry without an effect.
func nop(index int) api.Entry {
	return api.Entry{Index: index}
}

// partOf is a part's bytes with so many of these entries.
func partOf(from, n int) []byte {
	b := image.Part(from)
	for i := range n {
		b = append(b, image.Entry(nop(from+i+1))...)
	}
	return b
}

func fullOf(t *testing.T, s api.State) []byte {
	t.Helper()
	b, e := image.Full(s)
	if e != 0 {
		t.Fatal(e)
	}
	return b
}

func deltaOf(t *testing.T, d delta.Delta) []byte {
	t.Helper()
	b, e := image.Delta(d)
	if e != 0 {
		t.Fatal(e)
	}
	return b
}

type bytesOf map[string][]byte

func TestOpenOfAnEditThatIsNotPossible(t *testing.T) {
	good := add(part("p1", 0, 0))
	p := bytesOf{"p1": partOf(0, 3)}
	row, _ := frame.Make([]byte("no edit"))
	none, _ := frame.Make(nil)
	for _, wrong := range [][]byte{
		row, none,
		frameOf(t, edits.Edit{Drop: []string{"p2"}}),
		frameOf(t, edits.Edit{Drop: []string{"p1", "p1"}}),
		frameOf(t, add(part("p1", 0, 0))),
		frameOf(t, add(part("", 0, 0))),
		frameOf(t, add(part("p2", 1, 0))),
		frameOf(t, add(api.Ref{Name: "p2", Kind: 3})),
		frameOf(t, edits.Edit{Floor: million + 1}),
		frameOf(t, edits.Edit{Floor: -1}),
	} {
		d := hand(t, p, good)
		if open(t, d).State().Index != 3 {
			t.Fatal("the disk is wrong by more")
		}
		d.Append("J", wrong)
		d.Append("p1", []byte("more"))
		wantNot(t, d, api.ErrCorrupt)
		d.Append("J", frameOf(t, edits.Edit{}))
		d.Append("J", []byte("more"))
		wantNot(t, d, api.ErrCorrupt)
		set(t, d, "J", slices.Concat(wrong, frameOf(t, good)))
		wantNot(t, d, api.ErrCorrupt)
	}
	wantNot(t, hand(t, p, edits.Edit{Add: good.Add, Floor: 2}, edits.Edit{Floor: 1}), api.ErrCorrupt)
}

func TestOpenWithoutAPart(t *testing.T) {
	d := files.Of(1000)
	put(t, d, "J", nil)
	wantNot(t, d, api.ErrCorrupt)
	d.Append("J", []byte("more"))
	wantNot(t, d, api.ErrCorrupt)
	all := bytesOf{"f1": fullOf(t, api.State{Index: 2}), "p1": partOf(0, 2), "": partOf(0, 2)}
	wantNot(t, hand(t, all, edits.Edit{}), api.ErrCorrupt)
	wantNot(t, hand(t, all, add(full("f1", 2))), api.ErrCorrupt)
	wantNot(t, hand(t, all, add(part("p1", 0, 2)), edits.Edit{Drop: []string{"p1"}}), api.ErrCorrupt)
	wantNot(t, hand(t, all, add(full("f1", 2), change("p1", 0, 2))), api.ErrCorrupt)
}

// TestOpenOfALastPartThatCannotBeRead: what is behind the journal is not taken away then.
func TestOpenOfALastPartThatCannotBeRead(t *testing.T) {
	good := partOf(0, 3)
	head := len(image.Part(0))
	row, _ := frame.Make([]byte("no entry"))
	falls := image.Entry(api.Entry{Index: 2})
	for name, b := range map[string][]byte{
		"empty": nil, "cut": good[:head-1], "one byte": good[:1],
		"from": partOf(1, 3), "no entry": append(image.Part(0), row...),
		"an entry, and no entry": append(partOf(0, 3), row...),
		"another entry":          append(partOf(0, 3), image.Entry(nop(5))...),
		"the same entry":         append(partOf(0, 3), image.Entry(nop(3))...),
		"an entry that begins":   append(image.Part(0), image.Entry(nop(2))...),
		"a term that falls":      slices.Concat(image.Part(0), image.Entry(api.Entry{Index: 1, Term: 1}), falls),
		"a full file":            fullOf(t, api.State{}),
		"a journal":              frameOf(t, add(part("p1", 0, 0))),
	} {
		d := hand(t, bytesOf{"p1": b}, add(part("p1", 0, 0)))
		d.Append("J", []byte("more"))
		t.Log(name)
		wantNot(t, d, api.ErrCorrupt)
	}
	for at := range head {
		d := hand(t, bytesOf{"p1": good}, add(part("p1", 0, 0)))
		d.Flip("p1", at, 1)
		wantNot(t, d, api.ErrCorrupt)
	}
	d := hand(t, nil, add(part("p1", 0, 0)))
	wantNot(t, d, api.ErrCorrupt)
	d = hand(t, bytesOf{"p1": partOf(0, 8)}, add(part("p1", 0, 8), part("p2", 8, 8)))
	wantNot(t, d, api.ErrCorrupt)
}

// TestOpenOfAStateThatCannotBeRestored has vaults that are opened, and the same with one thing wrong.
func TestOpenOfAStateThatCannotBeRestored(t *testing.T) {
	s := api.State{Index: 5, Term: 0, Pairs: []api.Pair{{Key: "a", Value: "b"}}}
	d := delta.Delta{From: 5, To: 9, Pairs: []api.Pair{{Key: "c", Value: "d"}}}
	good := bytesOf{"f": fullOf(t, s), "d": deltaOf(t, d), "p": partOf(5, 3), "q": partOf(8, 4)}
	refs := []api.Ref{full("f", 5), change("d", 5, 9), part("p", 5, 8), part("q", 8, 8)}
	v := open(t, hand(t, good, edits.Edit{Add: refs, Floor: 12}))
	if want := (api.State{Index: 12, Pairs: []api.Pair{{Key: "a", Value: "b"}, {Key: "c", Value: "d"}}}); !state.Same(v.State(), want) {
		t.Fatal(toldVault(v))
	}
	wantNot(t, hand(t, good, edits.Edit{Add: refs, Floor: 13}), api.ErrCorrupt)
	for what, wrong := range map[string]bytesOf{
		"another state":          {"f": fullOf(t, api.State{Index: 4})},
		"a state of a term":      {"f": fullOf(t, api.State{Index: 5, Term: 1})},
		"no state":               {"f": nil},
		"more than a state":      {"f": append(fullOf(t, s), 0)},
		"a change from another":  {"d": deltaOf(t, delta.Delta{From: 4, To: 9})},
		"a change to another":    {"d": deltaOf(t, delta.Delta{From: 5, To: 8})},
		"a change to one behind": {"d": deltaOf(t, delta.Delta{From: 5, To: 10})},
		"a change of a term":     {"d": deltaOf(t, delta.Delta{From: 5, To: 9, Term: 1})},
		"no change":              {"d": []byte("d")},
		"more than a change":     {"d": append(deltaOf(t, d), 0)},
		"a state for a change":   {"d": fullOf(t, s)},
	} {
		files := bytesOf{"f": good["f"], "d": good["d"], "p": good["p"], "q": good["q"]}
		for name, b := range wrong {
			files[name] = b
		}
		h := hand(t, files, edits.Edit{Add: refs, Floor: 12})
		h.Append("J", []byte("more"))
		h.Append("q", []byte("more"))
		t.Log(what)
		wantNot(t, h, api.ErrCorrupt)
	}
	for _, name := range []string{"f", "d", "q"} {
		h := hand(t, good, edits.Edit{Add: refs, Floor: 12})
		h.Remove(name)
		wantNot(t, h, api.ErrCorrupt)
	}
	wantNot(t, hand(t, good, edits.Edit{Add: refs[2:], Floor: 12}), api.ErrCorrupt)
	wantNot(t, hand(t, good, edits.Edit{Add: []api.Ref{refs[0], refs[1], refs[2]}, Floor: 12}), api.ErrCorrupt)
	h := hand(t, good, edits.Edit{Add: []api.Ref{refs[0], refs[2], refs[3]}, Floor: 12})
	h.Cut("p", len(good["p"])-1)
	wantNot(t, h, api.ErrCorrupt)
	h = hand(t, bytesOf{"p": partOf(0, 8), "q": slices.Concat(image.Part(8), image.Entry(nop(9)))}, add(part("p", 0, 8), part("q", 8, 8)))
	if open(t, h).State().Index != 9 {
		t.Fatal("the disk is wrong by more")
	}
	set(t, h, "p", slices.Concat(partOf(0, 7), image.Entry(api.Entry{Index: 8, Term: 1})))
	wantNot(t, h, api.ErrCorrupt)
}

// TestOpenFindsTheLastPart: by From, then by To, not by its name or its place.
func TestOpenFindsTheLastPart(t *testing.T) {
	d := hand(t, bytesOf{"z": partOf(0, 8), "a": partOf(8, 2)}, add(part("z", 0, 8), part("a", 8, 8)))
	v := open(t, d)
	if v.State().Index != 10 || v.Verify() != "" {
		t.Error(toldVault(v))
	}
	if _, e := v.Apply(nop(11)); e != 0 || !bytes.Equal(read(t, d, "a"), partOf(8, 3)) {
		t.Error(e)
	}
	d = hand(t, bytesOf{"z": partOf(0, 2), "a": partOf(0, 5)}, add(part("z", 0, 2), part("a", 0, 5)))
	if v = open(t, d); v.State().Index != 5 {
		t.Error(toldVault(v))
	}
	d = hand(t, bytesOf{"b": partOf(0, 6), "a": partOf(0, 5)}, add(part("b", 0, 5), part("a", 0, 5)))
	if v = open(t, d); v.State().Index != 6 {
		t.Error(toldVault(v))
	}
	d = hand(t, bytesOf{"b": partOf(0, 8), "a": partOf(0, 8), "c": partOf(7, 3)}, add(part("b", 0, 8), part("a", 0, 7), part("c", 7, 7), change("z", 20, 30)))
	if v = open(t, d); v.State().Index != 10 {
		t.Error(toldVault(v))
	}
}

// TestOpenWithoutRoom has each room that is too small, and the least that is enough.
func TestOpenWithoutRoom(t *testing.T) {
	least := len(image.Part(0)) + len(frameOf(t, add(part("p1", 0, 0))))
	for room := -1; room < least; room++ {
		d := files.Of(room)
		for range 2 {
			if v, e := Open(d); v != nil || e != api.ErrFull {
				t.Fatalf("%d: %v", room, e)
			}
		}
		if slices.Contains(d.Names(), "J") {
			t.Fatalf("%d: %q", room, d.Names())
		}
	}
	wantFirst(t, files.Of(least))
	d := files.Of(least)
	put(t, d, "x", make([]byte, least))
	wantFirst(t, d)
}

// P12.2

func TestApply(t *testing.T) {
	s := begin(t)
	for _, c := range []api.Cmd{
		{Op: api.Put, Seq: 1, Key: "k", Value: "v"},
		{Op: api.Put, Seq: 1, Key: "k", Value: "w"},
		{Op: api.Put, Seq: 2, Key: "k", Value: "w"},
		{Op: api.Put, Seq: 1, Key: "k", Value: "x"},
		{},
		{Op: api.Swap, Client: 1, Key: "k", Value: "y", Old: "x"},
		{Op: api.Swap, Client: 2, Key: "k", Value: "y", Old: "w"},
	} {
		calls := s.disk.Calls()
		s.must(op{call: "Apply", entry: api.Entry{Index: s.p.last + 1, Term: s.p.last / 3, Cmd: c}})
		if s.disk.Calls() != calls+2 {
			t.Errorf("%d calls", s.disk.Calls()-calls)
		}
		s.disk.Restart(0, 0)
		s.hold()
	}
	s.disk.Restart(0, 0)
	s.hold()
	v := open(t, s.disk)
	reply, e := v.Apply(api.Entry{Index: 8, Term: 2, Cmd: api.Cmd{Op: api.Del, Client: 3, Key: "z"}})
	if e != 0 || reply != (api.Reply{Err: api.ErrUnknown}) || v.State().Index != 8 {
		t.Errorf("%+v, %v", reply, e)
	}
	reply, e = v.Apply(api.Entry{Index: 9, Term: 2, Cmd: api.Cmd{Op: api.Put, Client: 3, Seq: 1, Key: "k"}})
	if e != 0 || reply != (api.Reply{Value: "y"}) {
		t.Errorf("%+v, %v", reply, e)
	}
}

// wrongs are entries that may not be applied to a state, and their errors.
func wrongs(s api.State) map[api.Entry]api.Errno {
	next := s.Index + 1
	all := map[api.Entry]api.Errno{
		{}:                                     api.ErrArgument,
		{Index: next - 1, Term: s.Term}:        api.ErrOrder,
		{Index: next + 1, Term: s.Term}:        api.ErrOrder,
		{Index: next, Term: s.Term - 1}:        api.ErrOrder,
		{Index: next, Term: -1}:                api.ErrArgument,
		{Index: next, Term: million + 1}:       api.ErrArgument,
		{Index: million + 1, Term: s.Term}:     api.ErrArgument,
		{Index: -next, Term: s.Term}:           api.ErrArgument,
		{Index: math.MinInt, Term: s.Term}:     api.ErrArgument,
		{Index: math.MaxInt, Term: s.Term}:     api.ErrArgument,
		{Index: next, Cmd: api.Cmd{Op: 4}}:     api.ErrArgument,
		{Index: next, Cmd: api.Cmd{Op: -1}}:    api.ErrArgument,
		{Index: next, Cmd: api.Cmd{Client: 1}}: api.ErrArgument,
	}
	for _, c := range []api.Cmd{
		{Op: api.Put}, {Op: api.Put, Key: strings.Repeat("k", 9)}, {Op: api.Put, Key: "k", Value: strings.Repeat("v", 17)},
		{Op: api.Swap, Key: "k", Old: strings.Repeat("v", 20000)}, {Op: api.Del, Key: "k", Client: 4}, {Op: api.Del, Key: "k", Seq: -1},
	} {
		all[api.Entry{Index: next, Term: s.Term, Cmd: c}] = api.ErrArgument
	}
	return all
}

// TestApplyOfWhatMayNotBe has disks with room, without, and that are down.
func TestApplyOfWhatMayNotBe(t *testing.T) {
	for _, n := range []int{1, 7, 8, 9} {
		s := begin(t)
		for range n {
			x := s.next()
			x.Term = 2
			s.must(op{call: "Apply", entry: x})
		}
		for x, e := range wrongs(s.p.state()) {
			s.want(op{call: "Apply", entry: x}, e)
		}
		s.hold()
		fill(t, s.disk, 0)
		for x, e := range wrongs(s.p.state()) {
			s.want(op{call: "Apply", entry: x}, e)
		}
		s.disk.Arm(0)
		s.disk.SyncDir()
		calls := s.disk.Calls()
		for x, e := range wrongs(s.p.state()) {
			reply, got := s.v.Apply(x)
			if got != e || reply != (api.Reply{}) {
				t.Errorf("%+v: %+v, %v, not %v", x, reply, got, e)
			}
		}
		if s.disk.Calls() != calls || s.v.Broken() {
			t.Errorf("%d calls", s.disk.Calls()-calls)
		}
	}
}

// TestApplyTurns: the 8th entry still is in the first part, and the 9th one in a new one, which is listed.
func TestApplyTurns(t *testing.T) {
	s := begin(t).apply(8)
	if !sameSet(s.v.Set(), first().set) || len(s.disk.Names()) != 2 {
		t.Error(s.v.Set())
	}
	s.apply(1)
	want := edits.Set{Refs: []api.Ref{part("p1", 0, 8), part("p2", 8, 8)}}
	if !sameSet(s.v.Set(), want) {
		t.Error(s.v.Set())
	}
	s.disk.Restart(0, 0)
	s.v = open(t, s.disk)
	s.apply(7)
	if !sameSet(s.v.Set(), want) {
		t.Error(s.v.Set())
	}
	s.v = open(t, s.disk)
	s.apply(1)
	want.Refs[1].To = 16
	want.Refs = append(want.Refs, part("p3", 16, 16))
	if !sameSet(s.v.Set(), want) {
		t.Error(s.v.Set())
	}
	s.disk.Restart(0, 0)
	s.apply(80).hold()
	if len(s.v.Set().Refs) != 13 {
		t.Error(s.v.Set())
	}
}

// TestApplyTurnsBehindAState: a part need not begin at a multiple of 8.
func TestApplyTurnsBehindAState(t *testing.T) {
	s := begin(t).apply(3)
	s.must(op{call: "Install", state: api.State{Index: 21, Term: 4}})
	s.apply(8)
	if len(s.v.Set().Refs) != 2 {
		t.Error(s.v.Set())
	}
	s.do("Apply").hold()
	if n := s.p.set.Refs; len(n) != 3 || edits.Find(s.p.set, n[1].Name) < 0 || s.p.lastPart().From != 29 {
		t.Error(s.v.Set())
	}
}

func TestApplyUpToTheLastIndex(t *testing.T) {
	s := begin(t)
	s.must(op{call: "Install", state: api.State{Index: million - 8, Term: million}})
	s.apply(8)
	s.want(op{call: "Apply", entry: api.Entry{Index: million + 1, Term: million}}, api.ErrArgument)
	s.want(op{call: "Apply", entry: api.Entry{Index: million, Term: million}}, api.ErrOrder)
	s.do("Full", "Rewrite").hold()
	s.want(op{call: "Install", state: api.State{Index: million + 1}}, api.ErrOrder)
	s.want(op{call: "Install", state: api.State{Index: million, Term: million}}, api.ErrOrder)
	s.retain(million).hold()
	s.want(op{call: "Retain", floor: million + 1}, api.ErrOrder)
	s = begin(t)
	s.must(op{call: "Install", state: api.State{Index: million}})
	s.hold()
	s = begin(t)
	s.must(op{call: "Install", state: api.State{Index: million - 9}})
	s.apply(9).hold()
}

// TestApplyWithManyMore: a part that has more entries than any part of a vault is full.
func TestApplyWithManyMore(t *testing.T) {
	d := hand(t, bytesOf{"p1": partOf(0, 100)}, add(part("p1", 0, 0)))
	v := open(t, d)
	if _, e := v.Apply(nop(101)); e != 0 || !sameSet(v.Set(), edits.Set{Refs: []api.Ref{part("p1", 0, 100), part("p2", 100, 100)}}) {
		t.Error(e, v.Set())
	}
	d = hand(t, bytesOf{"p1": partOf(0, 8)}, add(part("p1", 0, 50)))
	v = open(t, d)
	if _, e := v.Apply(nop(9)); e != 0 || !sameSet(v.Set(), edits.Set{Refs: []api.Ref{part("p1", 0, 8), part("p2", 8, 8)}}) || v.Verify() != "" {
		t.Error(e, v.Set())
	}
}

// TestApplyWithoutRoomBehindANewPart: the new part stays listed, and the next Apply lists no other one.
func TestApplyWithoutRoomBehindANewPart(t *testing.T) {
	s := begin(t).apply(8)
	enough := begin(t).apply(9).disk.Used() - s.disk.Used()
	fill(t, s.disk, enough-1)
	got := s.p.turned(edits.Set{Refs: []api.Ref{part("p2", 8, 8)}})
	for range 2 {
		if reply, e := s.v.Apply(s.next()); e != api.ErrFull || reply != (api.Reply{}) || !got.is(s.v) || s.v.Broken() {
			t.Fatalf("%v: %s", e, toldVault(s.v))
		}
	}
	s.p = got
	s.hold()
	s.disk.Remove("filler")
	s.apply(8).hold()
	if len(s.p.set.Refs) != 2 {
		t.Error(s.p)
	}
}

// fill leaves a disk so much room.
func fill(t *testing.T, d *files.Disk, room int) {
	t.Helper()
	put(t, d, "filler", make([]byte, 40000-d.Used()-room))
}

// P12.3

func TestFull(t *testing.T) {
	s := begin(t).do("Full").hold()
	s.want(op{call: "Full"}, api.ErrExist)
	s.apply(3).do("Full")
	s.want(op{call: "Full"}, api.ErrExist)
	s.v = open(t, s.disk)
	s.want(op{call: "Full"}, api.ErrExist)
	s.apply(1).do("Full").apply(6).do("Full").hold()
	if n := len(s.p.set.Refs); n != 6 {
		t.Error(s.p)
	}
	s.disk.Restart(0, 0)
	s.v = open(t, s.disk)
	s.hold()
}

// TestFullIsOfThisIndex: neither a delta nor a part that ends here is one.
func TestFullIsOfThisIndex(t *testing.T) {
	s := begin(t).apply(3).do("Full").apply(2).do("Delta", "Full").hold()
	s.want(op{call: "Full"}, api.ErrExist)
	begin(t).apply(8).do("Full").apply(1).do("Full").hold()
}

func TestDelta(t *testing.T) {
	s := begin(t)
	s.want(op{call: "Delta"}, api.ErrOrder)
	s.apply(2).do("Delta")
	s.want(op{call: "Delta"}, api.ErrOrder)
	s.apply(3).do("Delta").apply(1).do("Full")
	s.want(op{call: "Delta"}, api.ErrOrder)
	s.apply(1).do("Delta").hold()
	want := []api.Ref{change("d1", 0, 2), change("d2", 2, 5), change("d3", 6, 7)}
	for _, r := range want {
		if !slices.Contains(s.v.Set().Refs, r) {
			t.Errorf("%+v is not in %+v", r, s.v.Set())
		}
	}
	s.disk.Restart(0, 0)
	s.v = open(t, s.disk)
	s.hold()
}

// TestDeltaBelowTheFloor: what is restored no more has no delta behind it.
func TestDeltaBelowTheFloor(t *testing.T) {
	s := begin(t).apply(5).retain(1)
	s.want(op{call: "Delta"}, api.ErrOrder)
	s.do("Full").apply(3).do("Delta").apply(3).retain(8).do("Delta").apply(1).retain(12)
	s.want(op{call: "Delta"}, api.ErrOrder)
	s.do("Full").apply(1).do("Delta").hold()
	s = begin(t).apply(3).do("Full").apply(3).retain(4)
	s.want(op{call: "Delta"}, api.ErrOrder)
	s = begin(t).apply(3).do("Full").apply(3).retain(3).do("Delta").hold()
}

// TestDeltaOfWhatIsNotRestored has a base that can't be: the error is that of Restore.
func TestDeltaOfWhatIsNotRestored(t *testing.T) {
	s := begin(t).apply(3).do("Full").apply(2)
	s.disk.Flip("f1", 20, 1)
	calls := s.disk.Calls()
	s.wantError("Delta", api.ErrCorrupt)
	s.disk.Remove("f1")
	s.wantError("Delta", api.ErrCorrupt)
	if s.disk.Calls() != calls+1 || s.v.Broken() {
		t.Errorf("%d calls", s.disk.Calls()-calls)
	}
	v := open(t, hand(t, bytesOf{"p": partOf(0, 3), "d": deltaOf(t, delta.Delta{To: 9})}, add(part("p", 0, 0), change("d", 0, 9))))
	if e := v.Delta(); e != api.ErrRetained {
		t.Error(e)
	}
	v = open(t, hand(t, bytesOf{"p": partOf(2, 3), "d": nil, "f": fullOf(t, api.State{Index: 2})}, add(part("p", 2, 2), change("d", 2, 9), full("f", 2))))
	if e := v.Delta(); e != api.ErrRetained {
		t.Error(e)
	}
	v = open(t, hand(t, bytesOf{"p": partOf(2, 3), "d": nil, "f": fullOf(t, api.State{Index: 2})}, edits.Edit{Add: []api.Ref{part("p", 2, 2), change("d", 0, 1), full("f", 2)}, Floor: 2}))
	if e := v.Delta(); e != 0 {
		t.Error(e)
	}
}

func TestMerge(t *testing.T) {
	s := begin(t)
	s.want(op{call: "Merge"}, api.ErrUnknown)
	s.apply(3).do("Delta")
	s.want(op{call: "Merge"}, api.ErrUnknown)
	s.apply(1).do("Full").apply(2).do("Delta")
	s.want(op{call: "Merge"}, api.ErrUnknown)
	s.apply(4).do("Delta").apply(1).do("Delta").hold()
	s.do("Merge").hold()
	if d := s.v.Set().Refs[0]; edits.Find(s.v.Set(), "d2") >= 0 || edits.Find(s.v.Set(), "d3") >= 0 || d.Kind != api.Delta {
		t.Error(s.v.Set())
	}
	s.do("Merge")
	s.want(op{call: "Merge"}, api.ErrUnknown)
	s.v = open(t, s.disk)
	s.want(op{call: "Merge"}, api.ErrUnknown)
	s.hold().apply(2).do("Delta", "Merge").hold()
	s.disk.Restart(0, 0)
	s.v = open(t, s.disk)
	s.hold()
}

// TestMergeOfWhatShouldNotBe has one of the two be another one, or damaged, or none.
func TestMergeOfWhatShouldNotBe(t *testing.T) {
	for _, name := range []string{"d1", "d2"} {
		s := begin(t).apply(3).do("Delta").apply(3).do("Delta").apply(1)
		b := read(t, s.disk, name)
		for at := range b {
			s.disk.Flip(name, at, 1)
			s.wantError("Merge", api.ErrCorrupt)
			s.disk.Flip(name, at, 1)
		}
		wrongs := [][]byte{nil, b[:len(b)-1], append(bytes.Clone(b), 0), deltaOf(t, delta.Delta{From: 1, To: 3}), deltaOf(t, delta.Delta{To: 2}), deltaOf(t, delta.Delta{From: 3, To: 7}), deltaOf(t, delta.Delta{From: 2, To: 6}), fullOf(t, api.State{Index: 3}), partOf(0, 3)}
		for _, wrong := range wrongs {
			set(t, s.disk, name, wrong)
			s.wantError("Merge", api.ErrCorrupt)
		}
		s.disk.Remove(name)
		s.wantError("Merge", api.ErrCorrupt)
		put(t, s.disk, name, b)
		s.do("Merge").hold()
	}
}

// many are so many pairs, the longest there are.
func many(letter string, n int) []api.Pair {
	var ps []api.Pair
	for i := range n {
		ps = append(ps, api.Pair{Key: fmt.Sprintf("%s%07d", letter, i), Value: strings.Repeat("v", 16)})
	}
	return ps
}

// gone are so many pairs that are Gone.
func gone(letter string, n int) []api.Pair {
	var ps []api.Pair
	for i := range n {
		ps = append(ps, api.Pair{Key: fmt.Sprintf("%s%03d", letter, i), Gone: true})
	}
	return ps
}

// TestMergeOfWhatDoesNotJoin has deltas that are as they should be each, but are not joined, or are too long as one.
func TestMergeOfWhatDoesNotJoin(t *testing.T) {
	for _, c := range []struct {
		a, b delta.Delta
		want api.Errno
	}{
		{delta.Delta{To: 3, Term: 2}, delta.Delta{From: 3, To: 6, Term: 2}, 0},
		{delta.Delta{To: 3, Term: 2}, delta.Delta{From: 3, To: 6, Term: 1}, api.ErrOrder},
		{delta.Delta{To: 3, Pairs: gone("a", 256)}, delta.Delta{From: 3, To: 6, Pairs: gone("b", 256)}, 0},
		{delta.Delta{To: 3, Pairs: gone("a", 256)}, delta.Delta{From: 3, To: 6, Pairs: gone("b", 257)}, api.ErrFull},
		{delta.Delta{To: 3, Pairs: many("a", 398)}, delta.Delta{From: 3, To: 6, Pairs: many("a", 398)}, 0},
		{delta.Delta{To: 3, Pairs: many("a", 250)}, delta.Delta{From: 3, To: 6, Pairs: many("b", 250)}, api.ErrFull},
	} {
		d := hand(t, bytesOf{"p": partOf(0, 0), "a": deltaOf(t, c.a), "b": deltaOf(t, c.b)}, add(part("p", 0, 0), change("a", 0, 3), change("b", 3, 6)))
		v := open(t, d)
		before, calls := fmt.Sprint(contents(t, d)), d.Calls()
		if e := v.Merge(); e != c.want {
			t.Errorf("%v, not %v", e, c.want)
		} else if e != 0 && (d.Calls() != calls || fmt.Sprint(contents(t, d)) != before || len(v.Set().Refs) != 3) {
			t.Errorf("%d calls", d.Calls()-calls)
		} else if e == 0 && (v.Verify() != "" || !slices.Equal(v.Set().Refs, []api.Ref{change("d1", 0, 6), part("p", 0, 0)})) {
			t.Errorf("%+v", v.Set())
		}
	}
}

// litter makes files of all names that a vault could choose, but for the last ones that there may be.
func litter(t *testing.T, s *scene, letter string, n int) {
	t.Helper()
	for i := range n {
		s.disk.Create(letter + fmt.Sprint(i))
	}
}

// TestNames has names that are not free: of files that are not listed, and of those that are.
func TestNames(t *testing.T) {
	for _, letter := range []string{"p", "d", "f"} {
		s := begin(t).apply(3)
		litter(t, s, letter, 50)
		before := s.disk.Names()
		s.do("Full").apply(2).do("Delta").apply(1).do("Delta", "Merge").apply(3)
		s.must(op{call: "Install", state: api.State{Index: 20}})
		s.hold()
		for _, r := range s.v.Set().Refs {
			if slices.Contains(before, r.Name) || !edits.May(r) || r.Name == "J" || r.Name == "t" {
				t.Errorf("%+v is new, among %q", r, before)
			}
		}
		s.do("Collect").apply(9).do("Full", "Apply", "Delta").hold()
	}
}

// TestNamesAgain has files go, and come again, many more than there are names, while some are removed and some are not.
func TestNamesAgain(t *testing.T) {
	t.Parallel()
	for _, collect := range []int{1, 3} {
		s := begin(t)
		for i := range 60 {
			before := slices.Concat(s.disk.Names(), []string{"J", "t"})
			old := s.v.Set()
			s.apply(1).do("Full").apply(2).do("Delta").retain(s.p.last - 1)
			for _, r := range s.v.Set().Refs {
				if edits.Find(old, r.Name) < 0 && slices.Contains(before, r.Name) {
					t.Fatalf("%+v is new, among %q", r, before)
				}
			}
			if i%collect == 0 {
				s.do("Collect")
			}
		}
		s.hold()
	}
}

// TestNamesOfFilesThatAreMissing: a name that is listed is not given to another file, although there is no file of it.
func TestNamesOfFilesThatAreMissing(t *testing.T) {
	s := begin(t).apply(2).do("Full").apply(2).do("Delta").apply(5)
	for _, name := range []string{"f1", "d1", "p1"} {
		s.disk.Remove(name)
	}
	if e := s.v.Full(); e != 0 {
		t.Error(e)
	}
	for range 9 {
		x := s.next()
		x.Index = s.v.State().Index + 1
		if _, e := s.v.Apply(x); e != 0 {
			t.Error(e)
		}
	}
	if got := s.v.Set(); len(got.Refs) != 6 || edits.Find(got, "f1") < 0 || edits.Find(got, "f2") < 0 {
		t.Error(got)
	}
}

// P12.4

func TestRetain(t *testing.T) {
	s := rich(t)
	for _, floor := range numbers {
		if floor <= 0 || floor > 19 {
			s.want(op{call: "Retain", floor: floor}, api.ErrOrder)
		}
	}
	s.want(op{call: "Retain", floor: 20}, api.ErrOrder)
	s.retain(1).retain(2).hold()
	s.want(op{call: "Retain", floor: 2}, api.ErrOrder)
	s.want(op{call: "Retain", floor: 1}, api.ErrOrder)
	s.v = open(t, s.disk)
	s.want(op{call: "Retain", floor: 2}, api.ErrOrder)
	s.retain(3).retain(18)
	s.want(op{call: "Retain", floor: 20}, api.ErrOrder)
	s.retain(19).hold()
	s.want(op{call: "Retain", floor: 19}, api.ErrOrder)
	s.want(op{call: "Retain", floor: 20}, api.ErrOrder)
	s.disk.Restart(0, 0)
	s.v = open(t, s.disk)
	s.hold()
	for _, floor := range numbers {
		if floor <= 19 || floor > 19 {
			s.want(op{call: "Retain", floor: floor}, api.ErrOrder)
		}
	}
}

// TestRetainDropsWhatIsNotNeeded: the files themselves stay until they are collected, and the last part stays listed.
func TestRetainDropsWhatIsNotNeeded(t *testing.T) {
	s := rich(t).do("Full").apply(1)
	s.retain(18)
	if len(s.v.Set().Refs) != 8 {
		t.Error(s.v.Set())
	}
	names := s.disk.Names()
	s.retain(19)
	if got := s.v.Set(); !slices.Equal(got.Refs, []api.Ref{full("f2", 19), part("p3", 16, 16)}) || got.Floor != 19 {
		t.Error(got)
	}
	if !slices.Equal(s.disk.Names(), names) {
		t.Errorf("%q", s.disk.Names())
	}
	s.hold().apply(4).do("Full").apply(4).retain(26)
	if got := s.v.Set(); len(got.Refs) != 2 || got.Floor != 26 {
		t.Error(got)
	}
	s.hold()
}

func TestCollect(t *testing.T) {
	s := rich(t)
	names := s.disk.Names()
	calls := s.disk.Calls()
	s.do("Collect").hold()
	if !slices.Equal(s.disk.Names(), names) || s.disk.Calls() != calls+1 {
		t.Errorf("%q", s.disk.Names())
	}
	for _, name := range []string{"t", "", "j", "J1", "p4", "f9", "a long name of a file"} {
		put(t, s.disk, name, []byte(name))
	}
	s.disk.Create("not safe")
	s.do("Collect").hold()
	if !slices.Equal(s.disk.Names(), names) {
		t.Errorf("%q", s.disk.Names())
	}
	s.disk.Restart(0, 0)
	if !slices.Equal(s.disk.Names(), names) {
		t.Errorf("%q", s.disk.Names())
	}
	s.retain(19).do("Full").apply(1).retain(20).do("Collect").hold()
	if !slices.Equal(s.disk.Names(), []string{"J", "f1", "f2", "p3"}) && !slices.Equal(s.disk.Names(), []string{"J", "f2", "p3"}) {
		t.Errorf("%q", s.disk.Names())
	}
	s.disk.Restart(0, 0)
	s.v = open(t, s.disk)
	s.hold()
}

// TestCollectOfMany has a disk with as many names as there may be.
func TestCollectOfMany(t *testing.T) {
	s := begin(t).apply(1)
	litter(t, s, "x", 62)
	if s.disk.Create("one more") != api.ErrFull {
		t.Fatal("there are less")
	}
	s.do("Collect").hold()
	if !slices.Equal(s.disk.Names(), []string{"J", "p1"}) {
		t.Errorf("%q", s.disk.Names())
	}
}

func TestRewrite(t *testing.T) {
	for _, s := range []*scene{begin(t), rich(t), rich(t).retain(18)} {
		for range 2 {
			s.do("Rewrite")
			if !bytes.Equal(read(t, s.disk, "J"), frameOf(t, edits.All(s.p.set))) {
				t.Errorf("%x", read(t, s.disk, "J"))
			}
			s.hold()
			s.disk.Restart(0, 0)
			s.v = open(t, s.disk)
			s.hold().apply(9).do("Full").retain(s.p.last - 1).hold()
		}
	}
}

// TestRewriteOfAnotherJournal: it does not matter what is there.
func TestRewriteOfAnotherJournal(t *testing.T) {
	s := rich(t)
	s.disk.Flip("J", 10, 1)
	s.do("Rewrite").hold()
	s.disk.Append("J", []byte("more"))
	s.do("Rewrite").hold()
	s.disk.Remove("J")
	put(t, s.disk, "t", []byte("t"))
	s.do("Rewrite", "Full").hold()
}

// TestRewriteOfAListThatHasNoFrame: then no file is written.
func TestRewriteOfAListThatHasNoFrame(t *testing.T) {
	var es []edits.Edit
	for i := range 500 {
		es = append(es, add(full(fmt.Sprintf("a longer name%03d", i), 900000+i)))
	}
	d := hand(t, bytesOf{"p1": partOf(0, 3)}, append(es, add(part("p1", 0, 0)))...)
	v := open(t, d)
	before, calls := fmt.Sprint(contents(t, d)), d.Calls()
	list := v.Set()
	if e := v.Rewrite(); e != api.ErrFull {
		t.Error(e)
	}
	if e := v.Install(api.State{Index: million}); e != 0 {
		t.Error(e)
	}
	v = open(t, hand(t, bytesOf{"p1": partOf(0, 3)}, append(es, add(part("p1", 0, 0)))...))
	if !sameSet(v.Set(), list) || d.Calls() == calls || v.Broken() {
		t.Error("the list is another")
	}
	d = hand(t, bytesOf{"p1": partOf(0, 3)}, append(es, add(part("p1", 0, 0)))...)
	v, calls = open(t, d), d.Calls()
	if e := v.Rewrite(); e != api.ErrFull || d.Calls() != calls || fmt.Sprint(contents(t, d)) != before || !sameSet(v.Set(), list) {
		t.Error(e)
	}
	for i := range 300 {
		es = append(es, add(full(fmt.Sprintf("a longer nama%03d", i), 900000+i)))
	}
	d = hand(t, bytesOf{"p1": partOf(0, 3)}, append(es, add(part("p1", 0, 0)))...)
	v, calls = open(t, d), d.Calls()
	list = v.Set()
	if e := v.Install(api.State{Index: million}); e != api.ErrFull || d.Calls() != calls || v.State().Index != 3 || !sameSet(v.Set(), list) {
		t.Error(e)
	}
}

func TestInstall(t *testing.T) {
	s := rich(t)
	last := s.p.state()
	for _, n := range []int{-1, 0, 18, 19} {
		s.want(op{call: "Install", state: api.State{Index: n, Term: 9}}, api.ErrOrder)
	}
	for _, wrong := range []api.State{
		{Index: 20, Term: -1}, {Index: 20, Term: million + 1}, {Index: million + 1}, {Index: math.MaxInt},
		{Index: 20, Pairs: []api.Pair{{}}},
		{Index: 20, Pairs: []api.Pair{{Key: "k", Gone: true}}},
		{Index: 20, Pairs: []api.Pair{{Key: "b"}, {Key: "a"}}},
		{Index: 20, Pairs: []api.Pair{{Key: "b"}, {Key: "b"}}},
		{Index: 20, Pairs: many("k", 65)},
		{Index: 20, Sessions: []api.Session{{Client: 4}}},
		{Index: 20, Sessions: []api.Session{{Seq: -1}}},
		{Index: 20, Pairs: []api.Pair{{Key: "a long key"}}},
	} {
		s.want(op{call: "Install", state: wrong}, api.ErrOrder)
	}
	if !state.Same(s.v.State(), last) {
		t.Error(s.v.State())
	}
	s.hold()
	later := api.State{Index: 20, Term: 7, Pairs: many("k", 64), Sessions: []api.Session{{Client: 1, Seq: 3, Reply: api.Reply{Err: api.ErrMatch, Value: "v"}}}}
	s.must(op{call: "Install", state: later})
	if got := s.v.Set(); got.Floor != 20 || len(got.Refs) != 2 {
		t.Error(got)
	}
	s.hold()
	s.want(op{call: "Install", state: later}, api.ErrOrder)
	s.want(op{call: "Apply", entry: api.Entry{Index: 21, Term: 6}}, api.ErrOrder)
	s.must(op{call: "Apply", entry: api.Entry{Index: 21, Term: 7, Cmd: api.Cmd{Op: api.Swap, Client: 1, Seq: 3, Key: "k"}}})
	s.disk.Restart(0, 0)
	s.v = open(t, s.disk)
	s.apply(9).do("Delta", "Collect").hold()
	s.must(op{call: "Install", state: api.State{Index: 1000}})
	s.hold().apply(8).do("Full").apply(1).retain(1009).do("Rewrite").hold()
}

// P12.5

// TestRestore has the document's example, and each index beside it.
func TestRestore(t *testing.T) {
	s := begin(t).apply(2).do("Full").apply(1).retain(2).hold()
	for _, index := range numbers {
		got, e := s.v.Restore(index)
		if index == 2 && (e != 0 || got.Index != 2) || index != 2 && (e != api.ErrRetained || !state.Same(got, api.State{})) {
			t.Errorf("%d: %+v, %v", index, got, e)
		}
	}
	if got, e := s.v.Restore(3); e != 0 || !state.Same(got, s.v.State()) {
		t.Errorf("%+v, %v", got, e)
	}
	rich(t).retain(5).hold().do("Merge").hold().do("Merge").hold().retain(9).hold()
}

// TestRestoreOfADiskThatIsDown: only a plan without files does not need it.
func TestRestoreOfADiskThatIsDown(t *testing.T) {
	s := rich(t)
	s.disk.Arm(0)
	s.disk.SyncDir()
	for index := -1; index <= 20; index++ {
		got, e := s.v.Restore(index)
		want := api.ErrCrash
		if index < 0 || index > 19 {
			want = api.ErrRetained
		} else if index == 0 {
			want = 0
		}
		if e != want || !state.Same(got, api.State{}) {
			t.Errorf("%d: %+v, %v", index, got, e)
		}
	}
	if s.v.Verify() != "J" || s.v.Broken() || s.v.Merge() != api.ErrCrash || s.v.Broken() {
		t.Error(s.v.Verify())
	}
	if !s.p.is(s.v) {
		t.Error(toldVault(s.v))
	}
	for _, call := range []string{"Apply", "Full", "Retain", "Collect", "Rewrite", "Install"} {
		s.wantError(call, api.ErrCrash)
		if !s.v.Broken() {
			t.Errorf("%s is not broken", call)
		}
		s.v.broken = false
	}
	s.wantError("Delta", api.ErrCrash)
	if s.v.Broken() {
		t.Error("what is read does not change the disk")
	}
}

// needs are the indices of rich for which a file is read.
var needs = map[string]func(index int) bool{
	"f1": func(i int) bool { return i >= 3 },
	"d1": func(i int) bool { return i >= 6 },
	"d2": func(i int) bool { return i >= 10 },
	"d3": func(i int) bool { return i >= 18 },
	"p1": func(i int) bool { return i >= 1 && i <= 9 && i != 3 && i != 6 },
	"p2": func(i int) bool { return i == 9 || i >= 11 && i <= 17 },
	"p3": func(i int) bool { return i == 17 || i == 19 },
}

// wantDamage wants a file of rich to be told by Verify, and each index that needs it to be corrupt; up to the index enough the file's entries still do. Where there are many wrong files, it looks at some indices of each.
func wantDamage(t *testing.T, s *scene, name string, enough, from, every int) {
	t.Helper()
	if got := s.v.Verify(); got != name {
		t.Fatalf("%q, not %q", got, name)
	}
	for index := from%every - 1; index <= s.p.last+1; index += every {
		if !needs[name](index) || index <= enough || index > s.p.last {
			holdRestore(t, s.v, s.p, index)
		} else if got, e := s.v.Restore(index); e != api.ErrCorrupt || !state.Same(got, api.State{}) {
			t.Fatalf("%s: %d: %+v, %v", name, index, got, e)
		}
	}
}

// enough is the last index to which a damaged part extends; 0: it is no part, or can't be read.
func enough(r api.Ref, b []byte) int {
	if r.Kind != api.Part {
		return 0
	}
	es, _, _ := image.ReadPart(b, r.From)
	if len(es) == 0 {
		return 0
	}
	return r.From + len(es)
}

// TestDamage alters each byte of each file, cuts each at each place, and takes it away.
func TestDamage(t *testing.T) {
	t.Parallel()
	s := rich(t)
	for _, r := range s.p.set.Refs {
		good := read(t, s.disk, r.Name)
		for at := range good {
			s.disk.Flip(r.Name, at, 16)
			wantDamage(t, s, r.Name, enough(r, read(t, s.disk, r.Name)), at, 5)
			s.disk.Flip(r.Name, at, 16)
		}
		for n := range good {
			set(t, s.disk, r.Name, good[:n])
			wantDamage(t, s, r.Name, enough(r, good[:n]), n, 5)
		}
		for _, other := range []string{"f1", "d1", "d2", "d3", "p1", "p2", "p3", "J"} {
			if other != r.Name {
				set(t, s.disk, r.Name, read(t, s.disk, other))
				wantDamage(t, s, r.Name, 0, 0, 1)
			}
		}
		s.disk.Remove(r.Name)
		wantDamage(t, s, r.Name, 0, 0, 1)
		put(t, s.disk, r.Name, good)
		s.hold()
	}
}

// TestDamageBehind has more bytes behind a file's. Entries are restored still.
func TestDamageBehind(t *testing.T) {
	s := rich(t)
	for _, r := range s.p.set.Refs {
		good := read(t, s.disk, r.Name)
		for _, more := range [][]byte{{0}, []byte("more"), image.Entry(nop(20))[:9]} {
			s.disk.Append(r.Name, more)
			wantDamage(t, s, r.Name, map[api.Kind]int{api.Part: million}[r.Kind], 0, 1)
			set(t, s.disk, r.Name, good)
		}
	}
	for name, index := range map[string]int{"p1": 9, "p2": 17, "p3": 20} {
		good := read(t, s.disk, name)
		s.disk.Append(name, image.Entry(api.Entry{Index: index}))
		wantDamage(t, s, name, million, 0, 1)
		s.disk.Append(name, image.Entry(api.Entry{Index: index + 2}))
		wantDamage(t, s, name, 0, 0, 1)
		set(t, s.disk, name, good)
	}
	s.hold()
}

// TestDamageOfOther has files that are valid, but not what they should be.
func TestDamageOfOther(t *testing.T) {
	s := rich(t)
	for _, wrong := range []struct {
		name string
		data []byte
	}{
		{"f1", fullOf(t, api.State{Index: 2})}, {"f1", fullOf(t, api.State{Index: 4})},
		{"d1", deltaOf(t, delta.Delta{From: 3, To: 5})}, {"d1", deltaOf(t, delta.Delta{From: 4, To: 6})}, {"d1", deltaOf(t, delta.Delta{From: 3, To: 7})},
		{"p1", partOf(0, 0)}, {"p1", partOf(1, 7)}, {"p2", partOf(7, 9)}, {"p3", partOf(16, 0)},
	} {
		good := read(t, s.disk, wrong.name)
		set(t, s.disk, wrong.name, wrong.data)
		wantDamage(t, s, wrong.name, 0, 0, 1)
		set(t, s.disk, wrong.name, good)
	}
	s.hold()
}

// TestRestoreOfWhatDoesNotFit has files that are what they should be each, but not behind one another.
func TestRestoreOfWhatDoesNotFit(t *testing.T) {
	s := api.State{Index: 5, Term: 2, Pairs: many("k", 64)}
	good := bytesOf{"f": fullOf(t, s), "p": slices.Concat(image.Part(5), image.Entry(api.Entry{Index: 6, Term: 2}), image.Entry(api.Entry{Index: 7, Term: 2})), "q": slices.Concat(image.Part(9), image.Entry(api.Entry{Index: 10, Term: 3}))}
	fits := delta.Delta{From: 5, To: 9, Term: 2}
	refs := add(full("f", 5), change("d", 5, 9), part("p", 5, 7), part("q", 9, 9))
	for _, c := range []struct {
		change delta.Delta
		want   api.Errno
	}{
		{fits, 0},
		{delta.Delta{From: 5, To: 9, Term: 1}, api.ErrCorrupt},
		{delta.Delta{From: 5, To: 9, Term: 2, Pairs: many("a", 1)}, api.ErrCorrupt},
	} {
		good["d"] = deltaOf(t, fits)
		d := hand(t, good, refs)
		v := open(t, d)
		set(t, d, "d", deltaOf(t, c.change))
		if got, e := v.Restore(10); e != c.want || e != 0 && !state.Same(got, api.State{}) {
			t.Errorf("%+v, %v, not %v", got, e, c.want)
		}
		if name := v.Verify(); name != "" {
			t.Error(name)
		}
		set(t, d, "p", slices.Concat(image.Part(5), image.Entry(api.Entry{Index: 6, Term: 1}), image.Entry(api.Entry{Index: 7, Term: 2})))
		if got, e := v.Restore(7); e != api.ErrCorrupt || !state.Same(got, api.State{}) {
			t.Errorf("%+v, %v", got, e)
		}
	}
}

// TestRestoreOfPartsThatOverlap: an entry counts once, of the part whose turn it is.
func TestRestoreOfPartsThatOverlap(t *testing.T) {
	entry := func(index int, value string) []byte {
		return image.Entry(api.Entry{Index: index, Cmd: api.Cmd{Op: api.Put, Seq: index, Key: "k", Value: value}})
	}
	one := image.Part(0)
	two := image.Part(2)
	for i := 1; i <= 6; i++ {
		one = append(one, entry(i, "one")...)
	}
	for i := 3; i <= 8; i++ {
		two = append(two, entry(i, "two")...)
	}
	d := hand(t, bytesOf{"one": one, "two": two}, add(part("one", 0, 4), part("two", 2, 2)))
	v := open(t, d)
	for index := 1; index <= 8; index++ {
		want := "one"
		if index > 4 {
			want = "two"
		}
		s, e := v.Restore(index)
		if e != 0 || state.Get(s, "k").Value != want {
			t.Errorf("%d: %+v, %v", index, s, e)
		}
	}
	set(t, d, "one", one[:len(one)-2*len(entry(6, "one"))-1])
	for index := 1; index <= 8; index++ {
		want := api.Errno(0)
		if index > 3 {
			want = api.ErrCorrupt
		}
		if s, e := v.Restore(index); e != want {
			t.Errorf("%d: %+v, %v", index, s, e)
		}
	}
}

// TestVerifyOfTheJournal alters it in each way.
func TestVerifyOfTheJournal(t *testing.T) {
	t.Parallel()
	s := rich(t).retain(7)
	good := read(t, s.disk, "J")
	index := 0
	wrong := func(what string) {
		t.Helper()
		if got := s.v.Verify(); got != "J" {
			t.Fatalf("%s: %q", what, got)
		}
		index++
		holdRestore(t, s.v, s.p, index%22)
	}
	for at := range good {
		s.disk.Flip("J", at, 1)
		wrong("a byte")
		s.disk.Flip("J", at, 1)
	}
	for n := range good {
		set(t, s.disk, "J", good[:n])
		wrong("less")
	}
	all := s.p.set
	for _, e := range []edits.Edit{
		{Add: all.Refs, Floor: 6}, {Add: all.Refs, Floor: 8}, {Add: all.Refs[1:], Floor: 7},
		{Add: append(slices.Clone(all.Refs), part("p4", 0, 0)), Floor: 7},
		{Add: append(slices.Clone(all.Refs[1:]), part("d1", 3, 6)), Floor: 7},
	} {
		set(t, s.disk, "J", frameOf(t, e))
		wrong("another list")
	}
	set(t, s.disk, "J", frameOf(t, edits.All(all)))
	s.hold()
	for _, more := range [][]byte{{0}, frameOf(t, edits.Edit{Floor: 8}), frameOf(t, edits.Edit{Floor: 6}), good} {
		s.disk.Append("J", more)
		wrong("more")
		set(t, s.disk, "J", good)
	}
	s.disk.Remove("J")
	wrong("none")
	put(t, s.disk, "J", good)
	s.disk.Flip("d1", 0, 1)
	s.disk.Flip("p3", 0, 1)
	s.disk.Flip("f1", 0, 1)
	if got := s.v.Verify(); got != "d1" {
		t.Errorf("%q is not the first", got)
	}
	s.disk.Flip("J", 0, 1)
	if got := s.v.Verify(); got != "J" {
		t.Errorf("%q is not the first", got)
	}
}

// TestVerifyOfAPartThatEndsElsewhere: the last part ends at the state, another one where the list says.
func TestVerifyOfAPartThatEndsElsewhere(t *testing.T) {
	for _, c := range []struct {
		a, b int // how far the parts are listed
		want string
	}{{8, 8, ""}, {8, 10, ""}, {8, 11, "b"}, {9, 8, "a"}, {7, 8, "a"}} {
		d := hand(t, bytesOf{"a": partOf(0, 8), "b": partOf(7, 3), "f": fullOf(t, api.State{Index: 9})}, add(part("a", 0, c.a), part("b", 7, c.b), full("f", 9)))
		if got := open(t, d).Verify(); got != c.want {
			t.Errorf("%v: %q", c, got)
		}
	}
}

// Where the disk stops.

// moment is a vault ahead of a call.
type moment struct {
	name  string
	ready func(t *testing.T) (*scene, op)
}

func at(name, call string, ready func(t *testing.T) *scene) moment {
	return moment{name, func(t *testing.T) (*scene, op) {
		t.Helper()
		s := ready(t)
		return s, s.op(call)
	}}
}

// left has what calls may leave that did not end: a file t, and files that are not listed.
func left(t *testing.T, s *scene) *scene {
	t.Helper()
	put(t, s.disk, "t", frameOf(t, edits.Edit{Floor: 1}))
	put(t, s.disk, "p2", image.Part(8))
	put(t, s.disk, "f1", []byte("no state"))
	put(t, s.disk, "d1", nil)
	return s
}

// moments are all kinds of calls that change the disk, each with what makes it do other things.
func moments() []moment {
	return []moment{
		at("Apply", "Apply", func(t *testing.T) *scene { return quick(t).apply(3) }),
		at("first Apply", "Apply", func(t *testing.T) *scene { return quick(t) }),
		at("8th Apply", "Apply", func(t *testing.T) *scene { return quick(t).apply(7) }),
		at("9th Apply", "Apply", func(t *testing.T) *scene { return quick(t).apply(8) }),
		at("9th Apply beside others", "Apply", func(t *testing.T) *scene { return left(t, quick(t).apply(8)) }),
		at("17th Apply", "Apply", func(t *testing.T) *scene { return quick(t).apply(4).do("Full").apply(12).retain(5) }),
		at("Full", "Full", func(t *testing.T) *scene { return quick(t).apply(9) }),
		at("Full beside others", "Full", func(t *testing.T) *scene { return left(t, quick(t).apply(3)) }),
		at("Delta", "Delta", func(t *testing.T) *scene { return quick(t).apply(3) }),
		at("Delta beside others", "Delta", func(t *testing.T) *scene { return left(t, quick(t).apply(3)) }),
		at("Delta behind a Full", "Delta", func(t *testing.T) *scene { return quick(t).apply(3).do("Full").apply(6) }),
		at("Merge", "Merge", func(t *testing.T) *scene { return quick(t).apply(3).do("Delta").apply(6).do("Delta").apply(1) }),
		at("Retain", "Retain", func(t *testing.T) *scene { return quick(t).apply(3) }),
		at("Retain that drops", "Retain", func(t *testing.T) *scene {
			return quick(t).apply(3).do("Delta", "Full").apply(7).retain(9).do("Full").apply(2)
		}),
		at("Collect", "Collect", func(t *testing.T) *scene { return quick(t).apply(9) }),
		at("Collect of others", "Collect", func(t *testing.T) *scene { return left(t, quick(t).apply(3)) }),
		at("Collect of what was dropped", "Collect", func(t *testing.T) *scene {
			return quick(t).apply(3).do("Full", "Rewrite").apply(7).do("Full").apply(2).retain(11)
		}),
		at("Rewrite", "Rewrite", func(t *testing.T) *scene { return quick(t).apply(9).do("Full").apply(1).do("Delta") }),
		at("Rewrite beside others", "Rewrite", func(t *testing.T) *scene { return left(t, quick(t).apply(3).retain(2)) }),
		at("Install", "Install", func(t *testing.T) *scene { return quick(t).apply(3).do("Full").apply(7).do("Delta") }),
		at("Install beside others", "Install", func(t *testing.T) *scene { return left(t, quick(t).apply(3)) }),
	}
}

// lost are how many bytes of a file remain that were not safe.
var lost = []int{0, 1, 8, 26, 60, 1 << 20}

// stop executes a call at which the disk stops, at so many counted calls, and restarts it; false: the call ended ahead of that.
func stop(t *testing.T, m moment, n, names, more int) (*scene, op, bool) {
	t.Helper()
	s, o := m.ready(t)
	s.quick = false
	s.disk.Arm(n)
	reply, e := o.do(s.v)
	if e == 0 {
		return nil, o, false
	}
	if e != api.ErrCrash || reply != (api.Reply{}) || !s.disk.Down() {
		t.Fatalf("%d: %+v, %v", n, reply, e)
	}
	if !s.v.Broken() {
		t.Fatalf("%d: it is not broken", n)
	}
	if turned := s.p.turned(s.v.Set()); o.call == "Apply" && turned.is(s.v) {
		s.p = turned
	}
	if !s.p.is(s.v) {
		t.Fatalf("%d: %s, not %s", n, toldVault(s.v), s.p)
	}
	if name := s.v.Verify(); name != "J" {
		t.Fatalf("%d: %q is not as it should be", n, name)
	}
	calls := s.disk.Calls()
	if _, e := o.do(s.v); e != api.ErrCrash || s.disk.Calls() != calls {
		t.Fatalf("%d: again: %v", n, e)
	}
	s.disk.Restart(names, more)
	return s, o, true
}

// reopen opens what was restarted, at which the disk may stop again.
func (s *scene) reopen(n int) {
	s.t.Helper()
	s.disk.Arm(n)
	v, e := Open(s.disk)
	if e == api.ErrCrash && v == nil && n >= 0 {
		s.disk.Restart(n, n)
		v, e = Open(s.disk)
	}
	if e != 0 || v == nil || v.Broken() {
		s.t.Fatalf("it is not opened: %v", e)
	}
	s.disk.Arm(-1)
	s.v = v
}

// became has a scene be what it was ahead of a call, or behind it.
func (s *scene) became(o op) string {
	s.t.Helper()
	if s.p.is(s.v) {
		return "before"
	}
	after, _, _ := s.p.after(o, s.v.Set())
	turned := s.p.turned(s.v.Set())
	switch {
	case after.is(s.v):
		s.p = after
		return "after"
	case o.call == "Apply" && turned.is(s.v):
		s.p = turned
		return "turned"
	}
	s.t.Fatalf("%+v of %s: %s", o, s.p, toldVault(s.v))
	return ""
}

// goOn wants all calls to be as ever, but for those whose turn it is not.
func (s *scene) goOn(calls ...string) {
	s.t.Helper()
	for _, call := range calls {
		if _, _, e := s.p.after(s.op(call), s.v.Set()); e == 0 {
			s.do(call)
			s.quick = true
		}
	}
	s.quick = false
	s.disk.Restart(0, 0)
	s.hold()
}

// TestStops has the disk stop at each call, with each loss. What is opened is as it was ahead of the call or behind it, and goes on.
func TestStops(t *testing.T) {
	for _, m := range moments() {
		t.Run(m.name, func(t *testing.T) {
			t.Parallel()
			seen := map[string]int{}
			for n, stopped := 0, true; stopped; n++ {
				for names := 0; names < 4 && stopped; names++ {
					for k := 0; k < len(lost) && stopped; k++ {
						var s *scene
						var o op
						s, o, stopped = stop(t, m, n, names, lost[k])
						if stopped {
							s.reopen(k%4 - 1)
							seen[s.became(o)]++
							s.hold()
							if (k+names)%5 == 0 {
								s.goOn("Apply", "Full", "Apply", "Delta", "Retain", "Collect", "Rewrite")
							}
						}
					}
				}
			}
			if seen["before"] == 0 || seen["after"] == 0 && m.name != "Collect" && !strings.Contains(m.name, "Collect of") && m.name != "Rewrite" && m.name != "Rewrite beside others" {
				t.Errorf("%v", seen)
			}
		})
	}
}

// TestStopsAndGoesOn has the vault that there was go on with the disk that was restarted: what the call left does not count.
func TestStopsAndGoesOn(t *testing.T) {
	for _, m := range moments() {
		t.Run(m.name, func(t *testing.T) {
			t.Parallel()
			calls := []string{"Apply", "Full", "Collect", "Rewrite", "Install", "Retain"}
			for n, stopped := 0, true; stopped; n++ {
				for k := 0; k < 4*len(lost) && stopped; k++ {
					var s *scene
					s, _, stopped = stop(t, m, n, k%4, lost[k/4])
					if stopped && (n+k)%2 == 0 {
						s.goOn(calls[(n+k+k/4)%len(calls)], "Apply", "Apply", "Delta", "Retain", "Full", "Collect")
					}
				}
			}
		})
	}
}

// TestOpenStops has disks that are begun, and such from which something is taken away.
func TestOpenStops(t *testing.T) {
	t.Parallel()
	cut := func(t *testing.T) *scene {
		s := begin(t).apply(3).do("Full").apply(6)
		s.disk.Append("J", []byte("more"))
		s.disk.Append("p2", []byte("more"))
		return s
	}
	empty := func(t *testing.T) *scene { return &scene{t: t, disk: files.Of(1000), p: first()} }
	full := func(t *testing.T) *scene {
		s := empty(t)
		put(t, s.disk, "p1", partOf(0, 3))
		put(t, s.disk, "t", frameOf(t, add(part("p1", 0, 0))))
		put(t, s.disk, "x", []byte("more"))
		return s
	}
	for _, ready := range []func(t *testing.T) *scene{cut, empty, full} {
		for n, stopped := 0, true; stopped; n++ {
			for names := -1; names < 5 && stopped; names++ {
				for again := -1; again < 16 && stopped; again += 2 {
					s := ready(t)
					s.disk.Arm(n)
					v, e := Open(s.disk)
					if stopped = e != 0; !stopped {
						break
					}
					if v != nil || e != api.ErrCrash || !s.disk.Down() {
						t.Fatalf("%d: %v", n, e)
					}
					s.disk.Restart(names, lost[(again+1)%len(lost)])
					s.reopen(again)
					s.goOn("Apply", "Full", "Apply")
				}
			}
		}
	}
}

// Where there is no room.

// noRoom wants a call of a vault without enough room, or names, to be ErrFull, and to be as ever when there is room again.
func noRoom(t *testing.T, s *scene, o op) {
	t.Helper()
	reply, e := o.do(s.v)
	if e != api.ErrFull || reply != (api.Reply{}) || s.v.Broken() {
		t.Fatalf("%+v: %+v, %v", o, reply, e)
	}
	if turned := s.p.turned(s.v.Set()); o.call == "Apply" && turned.is(s.v) {
		s.p = turned
	}
	s.hold()
	s.disk.Remove("filler")
	for i := range 64 {
		s.disk.Remove(fmt.Sprint("x", i))
	}
	s.must(o)
	s.hold().apply(1).do("Collect").hold()
}

// roomFor is the least room with which a call has no error.
func roomFor(t *testing.T, m moment) int {
	t.Helper()
	for room := 0; ; room++ {
		s, o := m.ready(t)
		fill(t, s.disk, room)
		if _, e := o.do(s.v); e == 0 {
			return room
		} else if e != api.ErrFull {
			t.Fatal(e)
		}
	}
}

func TestNoRoom(t *testing.T) {
	t.Parallel()
	for _, m := range moments() {
		need := roomFor(t, m)
		if (need == 0) != strings.HasPrefix(m.name, "Collect") {
			t.Errorf("%s: it needs room for %d", m.name, need)
		}
		for room := 0; room < need; room++ {
			if room == 1 || room == need-1 || room%13 == 0 {
				s, o := m.ready(t)
				fill(t, s.disk, room)
				noRoom(t, s, o)
			}
		}
	}
}

// TestTooManyNames has disks with so many names, and calls that need one more for t.
func TestTooManyNames(t *testing.T) {
	t.Parallel()
	for _, m := range moments() {
		for free := range 3 {
			s, o := m.ready(t)
			for i := range 64 - len(s.disk.Names()) - free {
				put(t, s.disk, fmt.Sprint("x", i), nil)
			}
			need := 1
			beside := slices.Contains(s.disk.Names(), "t")
			switch {
			case o.call == "Collect", o.call == "Retain", o.call == "Apply" && s.p.turned(edits.Set{}).is(s.v), beside:
				need = 0
			}
			if o.call == "Install" {
				need++
			}
			if free >= need {
				s.must(o)
				s.hold()
			} else {
				noRoom(t, s, o)
			}
		}
	}
}

// What is given, and what is answered.

func TestNothingIsShared(t *testing.T) {
	later := api.State{Index: 5, Pairs: make([]api.Pair, 1, 9), Sessions: make([]api.Session, 1, 9)}
	later.Pairs[0] = api.Pair{Key: "k", Value: "v"}
	later.Sessions[0] = api.Session{Client: 1, Seq: 2}
	given := copyOf(later)
	s := begin(t)
	s.must(op{call: "Install", state: later})
	want := copyOf(s.v.State())
	if !state.Same(later, given) {
		t.Error("it was changed")
	}
	scratch(later)
	if !state.Same(s.v.State(), want) {
		t.Error(s.v.State())
	}
	s.hold()
	scratch(s.v.State())
	got, _ := s.v.Restore(5)
	scratch(got)
	refs := s.v.Set().Refs
	for i := range refs {
		refs[i].Name = "x"
	}
	_ = append(refs[:0], refs...)
	s.hold().do("Apply", "Full", "Apply", "Delta", "Apply", "Retain", "Rewrite").hold()
}

// scratch writes over all that a state has.
func scratch(s api.State) {
	pairs := s.Pairs[:cap(s.Pairs)]
	for i := range pairs {
		pairs[i] = api.Pair{Key: "x", Value: "x"}
	}
	sessions := s.Sessions[:cap(s.Sessions)]
	for i := range sessions {
		sessions[i] = api.Session{Client: 3, Seq: 9}
	}
}

// TestWhatWasAnsweredStays, whatever is called later.
func TestWhatWasAnsweredStays(t *testing.T) {
	s := begin(t).apply(3).do("Full").apply(2).do("Delta").apply(3)
	last, list := s.v.State(), s.v.Set()
	then, _ := s.v.Restore(4)
	want, wantList, wantThen := copyOf(last), copySet(list), copyOf(then)
	s.apply(9).do("Delta", "Merge", "Full", "Apply").retain(s.p.last-1).do("Collect", "Rewrite")
	s.must(op{call: "Install", state: api.State{Index: 50, Pairs: many("k", 64)}})
	s.apply(3)
	if !state.Same(last, want) || !sameSet(list, wantList) || !state.Same(then, wantThen) {
		t.Error("it was changed")
	}
}

// TestTwoVaults: what one has is not what another one has.
func TestTwoVaults(t *testing.T) {
	a, b := rich(t), begin(t)
	b.apply(2).do("Full", "Apply", "Delta", "Collect")
	a.hold().do("Full").apply(3)
	b.hold()
	a.hold()
}
