package vault

import (
	"bytes"
	"fmt"
	"maps"
	"math/rand/v2"
	"slices"
	"strings"
	"testing"

	"tephra/api"
	"tephra/delta"
	"tephra/edits"
	"tephra/files"
	"tephra/frame"
	"tephra/image"
	"tephra/plan"
	"tephra/state"
)

// picture is what a vault should be by the promises' words, without a disk: its list, and the state and the entry of each index that there was.
type picture struct {
	set     edits.Set
	states  map[int]api.State
	entries map[int]api.Entry
	last    int
}

func first() picture {
	return picture{
		set:    edits.Set{Refs: []api.Ref{{Name: "p1", Kind: 2}}},
		states: map[int]api.State{0: {}},
	}
}

func (p picture) state() api.State {
	return p.states[p.last]
}

// with is the picture with another list.
func (p picture) with(add []api.Ref, drop []string, floor int) picture {
	p.set = copySet(p.set)
	p.set.Refs = slices.DeleteFunc(p.set.Refs, func(r api.Ref) bool { return slices.Contains(drop, r.Name) })
	p.set.Refs = append(p.set.Refs, add...)
	slices.SortFunc(p.set.Refs, func(a, b api.Ref) int { return strings.Compare(a.Name, b.Name) })
	p.set.Floor = floor
	return p
}

func (p picture) lastPart() api.Ref {
	var parts []api.Ref
	for _, r := range p.set.Refs {
		if r.Kind == 2 {
			parts = append(parts, r)
		}
	}
	slices.SortStableFunc(parts, func(a, b api.Ref) int {
		if a.From != b.From {
			return a.From - b.From
		}
		return a.To - b.To
	})
	return parts[len(parts)-1]
}

// named is a new file, by the name that it has in the list that came of it.
func (p picture) named(kind api.Kind, from, to int, got edits.Set) []api.Ref {
	for _, r := range got.Refs {
		if r.Kind == kind && edits.Find(p.set, r.Name) < 0 {
			return []api.Ref{{Name: r.Name, Kind: kind, From: from, To: to}}
		}
	}
	return []api.Ref{{Name: "there is none", Kind: kind, From: from, To: to}}
}

// op is a call that may change a vault, and what it is given.
type op struct {
	call  string
	entry api.Entry
	floor int
	state api.State
}

func (o op) do(v *Vault) (api.Reply, api.Errno) {
	switch o.call {
	case "Apply":
		return v.Apply(o.entry)
	case "Full":
		return api.Reply{}, v.Full()
	case "Delta":
		return api.Reply{}, v.Delta()
	case "Merge":
		return api.Reply{}, v.Merge()
	case "Retain":
		return api.Reply{}, v.Retain(o.floor)
	case "Collect":
		return api.Reply{}, v.Collect()
	case "Rewrite":
		return api.Reply{}, v.Rewrite()
	case "Install":
		return api.Reply{}, v.Install(o.state)
	}
	panic(o.call)
}

// after is what a call makes of a vault, what it answers, and its error: no room and no stop are among them. New files have the names of the list that came of it.
func (p picture) after(o op, got edits.Set) (picture, api.Reply, api.Errno) {
	switch o.call {
	case "Apply":
		return p.applied(o.entry, got)
	case "Full":
		for _, r := range p.set.Refs {
			if r.Kind == 0 && r.From == p.last {
				return p, api.Reply{}, api.ErrExist
			}
		}
		return p.with(p.named(0, p.last, p.last, got), nil, p.set.Floor), api.Reply{}, 0
	case "Delta":
		base := p.base()
		if base == p.last || base < p.set.Floor {
			return p, api.Reply{}, api.ErrOrder
		}
		return p.with(p.named(1, base, p.last, got), nil, p.set.Floor), api.Reply{}, 0
	case "Merge":
		a, b, ok := plan.Pair(p.set)
		if !ok {
			return p, api.Reply{}, api.ErrUnknown
		}
		return p.with(p.named(1, a.From, b.To, got), []string{a.Name, b.Name}, p.set.Floor), api.Reply{}, 0
	case "Retain":
		if o.floor <= p.set.Floor || o.floor > p.last {
			return p, api.Reply{}, api.ErrOrder
		}
		return p.with(nil, plan.Unneeded(p.set, o.floor), o.floor), api.Reply{}, 0
	case "Install":
		return p.installed(o.state, got)
	}
	return p, api.Reply{}, 0
}

func (p picture) base() int {
	base := 0
	for _, r := range p.set.Refs {
		if r.Kind != 2 && r.To > base {
			base = r.To
		}
	}
	return base
}

// turned is the picture with a new last part, if that one is full.
func (p picture) turned(got edits.Set) picture {
	old := p.lastPart()
	if p.last-old.From < 8 {
		return p
	}
	refs := p.named(2, p.last, p.last, got)
	name := old.Name
	old.To = p.last
	return p.with(append(refs, old), []string{name}, p.set.Floor)
}

func (p picture) applied(x api.Entry, got edits.Set) (picture, api.Reply, api.Errno) {
	next, reply := state.Apply(p.state(), x)
	if next.Index == p.last {
		return p, api.Reply{}, reply.Err
	}
	q := p.turned(got)
	q.states = maps.Clone(q.states)
	q.states[next.Index] = next
	q.entries = maps.Clone(q.entries)
	if q.entries == nil {
		q.entries = map[int]api.Entry{}
	}
	q.entries[next.Index] = x
	q.last++
	return q, reply, 0
}

func (p picture) installed(s api.State, got edits.Set) (picture, api.Reply, api.Errno) {
	if !state.Right(s) || s.Index <= p.last {
		return p, api.Reply{}, api.ErrOrder
	}
	refs := append(p.named(0, s.Index, s.Index, got), p.named(2, s.Index, s.Index, got)...)
	var all []string
	for _, r := range p.set.Refs {
		all = append(all, r.Name)
	}
	q := p.with(refs, all, s.Index)
	q.states = map[int]api.State{s.Index: copyOf(s)}
	q.last = s.Index
	return q, api.Reply{}, 0
}

func copySet(s edits.Set) edits.Set {
	return edits.Set{Refs: slices.Clone(s.Refs), Floor: s.Floor}
}

func sameSet(a, b edits.Set) bool {
	return slices.Equal(a.Refs, b.Refs) && a.Floor == b.Floor
}

// is tells whether a vault has the list and the state of a picture.
func (p picture) is(v *Vault) bool {
	return sameSet(v.Set(), p.set) && state.Same(v.State(), p.state())
}

func (p picture) String() string {
	return fmt.Sprintf("%+v %+v", p.set, p.state())
}

func toldVault(v *Vault) string {
	return fmt.Sprintf("%+v %+v", v.Set(), v.State())
}

// end is where a file ends.
func (p picture) end(r api.Ref) int {
	if r == p.lastPart() {
		return max(r.To, p.last)
	}
	return r.To
}

func (p picture) partBytes(r api.Ref) []byte {
	b := image.Part(r.From)
	for i := r.From + 1; i <= p.end(r); i++ {
		b = append(b, image.Entry(p.entries[i])...)
	}
	return b
}

// holdFile holds a listed file's bytes against what it should have.
func holdFile(t *testing.T, d *files.Disk, p picture, r api.Ref) {
	t.Helper()
	b, e := d.Read(r.Name)
	if e != 0 {
		t.Fatalf("%v: %v", r, e)
	}
	var want []byte
	switch r.Kind {
	case 0:
		want, _ = image.Full(p.states[r.To])
	case 1:
		x, _ := image.ReadDelta(b)
		if s, e := delta.Do(p.states[r.From], x); e != 0 || x.From != r.From || !state.Same(s, p.states[r.To]) {
			t.Fatalf("%v: %+v", r, x)
		}
		want, _ = image.Delta(x)
	case 2:
		want = p.partBytes(r)
	}
	if !bytes.Equal(b, want) {
		t.Fatalf("%v: %x, not %x", r, b, want)
	}
}

// holdDisk holds all files of a disk against a picture: those that are listed have the names that should be there, others may be there too.
func holdDisk(t *testing.T, d *files.Disk, p picture) {
	t.Helper()
	b, e := d.Read("J")
	s, n, wrong := edits.Replay(b)
	if e != 0 || wrong != 0 || n != len(b) || !sameSet(s, p.set) {
		t.Fatalf("J: %v, %v, %d of %d, %+v, not %+v", e, wrong, n, len(b), s, p.set)
	}
	for _, r := range p.set.Refs {
		holdFile(t, d, p, r)
	}
}

// holdVault holds a vault against a picture, without what it restores.
func holdVault(t *testing.T, d *files.Disk, v *Vault, p picture) {
	t.Helper()
	if !p.is(v) {
		t.Fatalf("%s, not %s", toldVault(v), p)
	}
	holdDisk(t, d, p)
	if name := v.Verify(); name != "" {
		t.Fatalf("%s is not as it should be", name)
	}
}

func holdRestore(t *testing.T, v *Vault, p picture, index int) {
	t.Helper()
	s, e := v.Restore(index)
	if index < p.set.Floor || index > p.last {
		if e != api.ErrRetained || !state.Same(s, api.State{}) {
			t.Fatalf("%d: %+v, %v", index, s, e)
		}
		return
	}
	if e != 0 || !state.Same(s, p.states[index]) {
		t.Fatalf("%d: %+v, %v, not %+v", index, s, e, p.states[index])
	}
}

// holdAll holds a vault against a picture, each index too, and what is opened of its disk.
func holdAll(t *testing.T, d *files.Disk, v *Vault, p picture) {
	t.Helper()
	holdVault(t, d, v, p)
	for index := -1; index < 3; index++ {
		holdRestore(t, v, p, index)
	}
	for index := p.set.Floor - 2; index <= p.last+2; index++ {
		holdRestore(t, v, p, index)
	}
	holdOpen(t, d, p)
}

// holdOpen opens a disk as it should be, which changes nothing.
func holdOpen(t *testing.T, d *files.Disk, p picture) {
	t.Helper()
	calls := d.Calls()
	v, e := Open(d)
	if e != 0 || v == nil {
		t.Fatalf("it is not opened: %v", e)
	}
	if d.Calls() != calls {
		t.Fatalf("%d calls", d.Calls()-calls)
	}
	if !p.is(v) || v.Broken() {
		t.Fatalf("%s is opened, not %s", toldVault(v), p)
	}
}

// maker makes operations by numbers that it is given.
type maker struct {
	next func(n int) int // from 0 to n - 1
}

func (m maker) text(most int) string {
	return strings.Repeat(string(rune('a'+m.next(4))), m.next(most+1))
}

// entry is mostly the next one, of a client's next command.
func (m maker) entry(s api.State) api.Entry {
	x := api.Entry{Index: s.Index + 1, Term: s.Term + m.next(4)/3}
	if m.next(6) > 0 {
		x.Cmd = api.Cmd{Op: api.Op(1 + m.next(3)), Client: m.next(4), Key: string(rune('a' + m.next(5))), Value: m.text(16), Old: m.text(1)}
		for _, c := range s.Sessions {
			if c.Client == x.Cmd.Client {
				x.Cmd.Seq = c.Seq + m.next(5) - 1
			}
		}
	}
	switch m.next(20) {
	case 0:
		x.Index += m.next(3) - 1
	case 1:
		x.Term--
	case 2:
		x.Cmd.Key = ""
	}
	return x
}

// state is mostly a valid one that is later.
func (m maker) state(last api.State) api.State {
	s := api.State{Index: last.Index + m.next(5), Term: last.Term + m.next(2)}
	for key := range 5 {
		if m.next(2) == 0 {
			s.Pairs = append(s.Pairs, api.Pair{Key: string(rune('a' + key)), Value: m.text(16)})
		}
	}
	for client := range 4 {
		if m.next(3) == 0 {
			s.Sessions = append(s.Sessions, api.Session{Client: client, Seq: m.next(9), Reply: api.Reply{Err: api.Errno(m.next(15)), Value: m.text(3)}})
		}
	}
	if m.next(8) == 0 {
		s.Pairs = append(s.Pairs, api.Pair{Key: "b", Gone: true})
	}
	return s
}

func (m maker) op(p picture) op {
	switch m.next(24) {
	case 0, 1:
		return op{call: "Full"}
	case 2, 3, 4, 5:
		return op{call: "Delta"}
	case 6, 7:
		return op{call: "Merge"}
	case 8, 9:
		return op{call: "Retain", floor: p.set.Floor + m.next(4) + m.next(2)*m.next(9)}
	case 10:
		return op{call: "Collect"}
	case 11:
		return op{call: "Rewrite"}
	case 12:
		if m.next(2) == 0 {
			return op{call: "Install", state: m.state(p.state())}
		}
	}
	return op{call: "Apply", entry: m.entry(p.state())}
}

// tally counts what became of calls.
type tally map[string]int

// broke is a call in which the disk stopped, and what the vault was ahead of it.
type broke struct {
	p picture
	o op
}

// rig is a vault on a disk, what it should be, and the calls of which a stop may have left something behind its files.
type rig struct {
	t     *testing.T
	m     maker
	n     tally
	disk  *files.Disk
	v     *Vault
	p     picture
	small bool
	left  []broke
}

// litter makes a file that is not the vault's, by a name that the vault could choose.
func (r *rig) litter() {
	name := []string{"t", "x", "f1", "f2", "d1", "d3", "p2", "p3", "p4", "K", ""}[r.m.next(11)]
	if r.disk.Create(name) == 0 {
		r.disk.Append(name, []byte("litter")[:r.m.next(7)])
	}
}

// pictures are those that a call may leave where it does not end: the list and the state are as they were, or Apply listed a new part, or it took effect.
func (b broke) pictures(got edits.Set) []picture {
	ps := []picture{b.p}
	if after, _, e := b.p.after(b.o, got); e == 0 {
		if b.o.call == "Apply" {
			ps = append(ps, b.p.turned(got))
		}
		ps = append(ps, after)
	}
	return ps
}

// keep has the vault's picture be one of those that may be. Two of them may have the same state by other entries.
func (r *rig) keep(o op, ps []picture) int {
	r.t.Helper()
	for i, p := range ps {
		last := p.lastPart()
		b, _ := r.disk.Read(last.Name)
		if p.is(r.v) && (len(ps) == 1 || r.disk.Down() || bytes.HasPrefix(b, p.partBytes(last))) {
			r.p = p
			return i
		}
	}
	r.t.Fatalf("%+v of %s: %s", o, r.p, toldVault(r.v))
	return -1
}

// keepList has the picture be as it was, or with the new part that Apply listed.
func (r *rig) keepList(o op) {
	r.t.Helper()
	ps := []picture{r.p}
	if o.call == "Apply" {
		ps = append(ps, r.p.turned(r.v.Set()))
	}
	r.keep(o, ps)
}

// step executes one operation, at times with a disk that stops in it.
func (r *rig) step() {
	t := r.t
	t.Helper()
	if r.m.next(15) == 0 {
		r.litter()
	}
	o := r.m.op(r.p)
	if r.m.next(3) == 0 {
		r.disk.Arm(r.m.next(10))
	}
	names, calls, broken := r.disk.Names(), r.disk.Calls(), r.v.Broken()
	reply, e := o.do(r.v)
	r.disk.Arm(-1)
	if e == api.ErrCrash || r.v.Broken() != broken {
		r.stopped(o, e, broken)
		return
	}
	if e == api.ErrFull && r.small {
		r.n["full "+o.call]++
		r.keepList(o)
		return
	}
	want, told, wrong := r.p.after(o, r.v.Set())
	if e != wrong || reply != told {
		t.Fatalf("%+v of %s: %v, %v, not %v, %v", o, r.p, reply, e, told, wrong)
	}
	if e != 0 && r.disk.Calls() != calls {
		t.Fatalf("%+v of %s: %v and %d calls", o, r.p, e, r.disk.Calls()-calls)
	}
	r.n[fmt.Sprintf("%s %d", o.call, e)]++
	r.holdNames(names, want.set)
	r.p = want
	if e == 0 {
		r.left = nil
	}
	r.hold(o)
}

// holdNames holds new files against the names that there were.
func (r *rig) holdNames(names []string, after edits.Set) {
	r.t.Helper()
	for _, f := range after.Refs {
		if edits.Find(r.p.set, f.Name) < 0 && (slices.Contains(names, f.Name) || f.Name == "J" || f.Name == "t") {
			r.t.Fatalf("%q is new, among %q", f.Name, names)
		}
	}
}

func (r *rig) hold(o op) {
	r.t.Helper()
	if r.left != nil || r.m.next(3) > 0 {
		r.keep(o, []picture{r.p})
	} else {
		holdVault(r.t, r.disk, r.v, r.p)
		holdOpen(r.t, r.disk, r.p)
	}
	for range 2 {
		holdRestore(r.t, r.v, r.p, r.p.set.Floor-1+r.m.next(r.p.last-r.p.set.Floor+3))
	}
	if names := r.disk.Names(); o.call == "Collect" && r.left == nil && len(names) != len(r.p.set.Refs)+1 {
		r.t.Fatalf("%q are there, of %+v", names, r.p.set)
	}
}

// stopped goes on behind a stop: with the vault that there was, or with one that is opened, at which the disk may stop again.
func (r *rig) stopped(o op, e api.Errno, broken bool) {
	t := r.t
	t.Helper()
	if e != api.ErrCrash || !r.disk.Down() || !r.v.Broken() {
		t.Fatalf("%+v: %v, down: %v, broken: %v", o, e, r.disk.Down(), r.v.Broken())
	}
	if w, e := Open(r.disk); w != nil || e != api.ErrCrash {
		t.Fatal("a disk that is down is opened")
	}
	r.left = append(r.left, broke{r.p, o})
	r.keepList(o)
	r.restart()
	if r.m.next(3) == 0 {
		r.n["went on"]++
		r.hold(o)
		return
	}
	if r.m.next(4) > 0 {
		r.disk.Arm(r.m.next(2))
	}
	w, e := Open(r.disk)
	r.disk.Arm(-1)
	if e == api.ErrCrash {
		r.n["stopped again"]++
		r.restart()
		w, e = Open(r.disk)
	}
	if e != 0 {
		t.Fatalf("%+v of %s: it is not opened: %v", o, r.p, e)
	}
	r.v = w
	var ps []picture
	for _, b := range r.left {
		ps = append(ps, b.pictures(w.Set())...)
	}
	got := r.keep(o, ps)
	switch {
	case len(r.left) > 1:
		r.n["stopped twice"]++
	case got == 0:
		r.n["before"]++
	case got == 1 && o.call == "Apply":
		r.n["turned"]++
	default:
		r.n["after"]++
	}
	r.left = nil
	r.hold(op{})
}

func (r *rig) restart() {
	r.disk.Restart(r.m.next(5), []int{0, 1, 8, 50, 100, 10000, 10000, 10000}[r.m.next(8)])
}

func holdRun(t *testing.T, m maker, n tally, steps int) {
	t.Helper()
	r := &rig{t: t, m: m, n: n, p: first()}
	room := 100000
	if m.next(4) == 0 {
		r.small = true
		room = 200 + m.next(3000)
	}
	r.disk = files.Of(room)
	v, e := Open(r.disk)
	if e != 0 {
		t.Fatal(e)
	}
	r.v = v
	for range steps {
		r.step()
	}
	if r.left == nil {
		holdAll(t, r.disk, r.v, r.p)
	}
}

// TestAsThePictures runs so many that each thing happens often, in rows that don't wait for one another.
func TestAsThePictures(t *testing.T) {
	var tallies [8]tally
	t.Run("runs", func(t *testing.T) {
		for row := range tallies {
			n := tally{}
			tallies[row] = n
			t.Run(fmt.Sprint(row), func(t *testing.T) {
				t.Parallel()
				m := maker{rand.New(rand.NewPCG(12, uint64(row))).IntN}
				for range 50 {
					holdRun(t, m, n, 60)
				}
			})
		}
	})
	for what, least := range map[string]int{
		"Apply 0": 500, "Apply 8": 500, "Apply 14": 500,
		"Full 0": 500, "Full 5": 200,
		"Delta 0": 500, "Delta 8": 500,
		"Merge 0": 200, "Merge 6": 500,
		"Retain 0": 500, "Retain 8": 500,
		"Collect 0": 500, "Rewrite 0": 500,
		"Install 0": 100, "Install 8": 100,
		"full Apply": 500, "full Full": 100, "full Delta": 100, "full Merge": 20, "full Retain": 50, "full Rewrite": 50, "full Install": 20,
		"before": 500, "turned": 20, "after": 200, "went on": 500, "stopped again": 50, "stopped twice": 50,
	} {
		sum := 0
		for _, n := range tallies {
			sum += n[what]
		}
		if sum < least {
			t.Errorf("%s: only %d", what, sum)
		}
	}
}

// FuzzVault holds a vault against pictures, for operations of any kind.
func FuzzVault(f *testing.F) {
	f.Add([]byte{0})
	f.Add([]byte("operations, and disks that stop, and what is left of them"))
	f.Fuzz(func(t *testing.T, numbers []byte) {
		at := 0
		next := func(n int) int {
			if len(numbers) == 0 {
				return 0
			}
			at++
			return (int(numbers[at%len(numbers)]) + at/len(numbers)) % n
		}
		holdRun(t, maker{next}, tally{}, 20)
	})
}

// FuzzBytes opens disks of any bytes, and asks for all: what is not an error is as the journal and the parts say.
func FuzzBytes(f *testing.F) {
	row, _ := frame.Make(edits.Bytes(edits.All(first().set)))
	f.Add([]byte{}, []byte{}, []byte{})
	f.Add(row, image.Part(0), []byte{1})
	full, _ := image.Full(api.State{Index: 3})
	row, _ = frame.Make(edits.Bytes(edits.Edit{Add: []api.Ref{{Name: "p1", Kind: 2, From: 3, To: 3}, {Name: "f1", From: 3, To: 3}}, Floor: 3}))
	f.Add(row, image.Part(3), full)
	f.Fuzz(func(t *testing.T, j, p1, f1 []byte) {
		d := files.Of(1 << 20)
		for name, b := range map[string][]byte{"J": j, "p1": p1, "f1": f1} {
			put(t, d, name, b)
		}
		used := d.Used()
		v, e := Open(d)
		if e != 0 {
			if v != nil || e != api.ErrCorrupt || d.Used() != used {
				t.Fatalf("%v, and %d bytes of %d", e, d.Used(), used)
			}
			return
		}
		holdOpened(t, d, v, j)
	})
}

func holdOpened(t *testing.T, d *files.Disk, v *Vault, j []byte) {
	t.Helper()
	s, _, e := edits.Replay(j)
	if e != 0 || !sameSet(s, v.Set()) {
		t.Fatalf("%v: %+v, not %+v", e, v.Set(), s)
	}
	last := v.State().Index
	for index := last - 20; index <= last+1; index++ {
		if s, e := v.Restore(index); e == 0 && s.Index != index {
			t.Fatalf("%d is %+v", index, s)
		}
	}
	v.Verify()
	for _, call := range []string{"Full", "Delta", "Merge", "Apply", "Retain", "Rewrite", "Collect", "Install"} {
		o := op{call: call, entry: api.Entry{Index: last + 1, Term: v.State().Term}, floor: last, state: api.State{Index: last + 1}}
		o.do(v)
	}
	calls := d.Calls()
	w, e := Open(d)
	if e != 0 || d.Calls() != calls || !sameSet(w.Set(), v.Set()) || !state.Same(w.State(), v.State()) {
		t.Fatalf("%v: it is opened otherwise than it is", e)
	}
}
