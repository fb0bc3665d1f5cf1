package state

import (
	"encoding/binary"
	"maps"
	"math/rand/v2"
	"slices"
	"testing"

	"tephra/api"
	"tephra/cmds"
	"tephra/pack"
)

// slowState is a state from the promises' words, made otherwise than api.State: maps of the language, whose keys are sorted when they are told.
type slowState struct {
	index, term int
	values      map[string]string
	sessions    map[int]api.Session
}

func newSlow() *slowState {
	return &slowState{values: map[string]string{}, sessions: map[int]api.Session{}}
}

func (s *slowState) apply(e api.Entry) api.Reply {
	switch {
	case !cmds.Right(e):
		return api.Reply{Err: api.ErrArgument}
	case e.Index != s.index+1, e.Term < s.term:
		return api.Reply{Err: api.ErrOrder}
	}
	s.index, s.term = e.Index, e.Term
	c := e.Cmd
	if c.Op == api.Nop {
		return api.Reply{}
	}
	x, ok := s.sessions[c.Client]
	switch {
	case ok && x.Seq == c.Seq:
		return x.Reply
	case ok && x.Seq > c.Seq:
		return api.Reply{Err: api.ErrOld}
	}
	out := s.do(c)
	s.sessions[c.Client] = api.Session{Client: c.Client, Seq: c.Seq, Reply: out}
	return out
}

func (s *slowState) do(c api.Cmd) api.Reply {
	value, ok := s.values[c.Key]
	switch {
	case c.Op == api.Put && !ok && len(s.values) == 64:
		return api.Reply{Err: api.ErrFull}
	case c.Op != api.Put && !ok:
		return api.Reply{Err: api.ErrUnknown}
	case c.Op == api.Swap && value != c.Old:
		return api.Reply{Err: api.ErrMatch, Value: value}
	case c.Op == api.Del:
		delete(s.values, c.Key)
	default:
		s.values[c.Key] = c.Value
	}
	return api.Reply{Value: value}
}

func (s *slowState) get(key string) api.Reply {
	if value, ok := s.values[key]; ok {
		return api.Reply{Value: value}
	}
	return api.Reply{Err: api.ErrUnknown}
}

// told is the same state as plain data.
func (s *slowState) told() api.State {
	u := api.State{Index: s.index, Term: s.term}
	for _, key := range slices.Sorted(maps.Keys(s.values)) {
		u.Pairs = append(u.Pairs, api.Pair{Key: key, Value: s.values[key]})
	}
	for _, client := range slices.Sorted(maps.Keys(s.sessions)) {
		u.Sessions = append(u.Sessions, s.sessions[client])
	}
	return u
}

func appendNum(b []byte, n int) []byte {
	return binary.BigEndian.AppendUint64(b, uint64(n))
}

func appendText(b []byte, s string) []byte {
	return append(appendNum(b, len(s)), s...)
}

// slowRows are lists' bytes from the promise's words, by the library.
func slowRows(b []byte, ps []api.Pair, xs []api.Session) []byte {
	b = appendNum(b, len(ps))
	for _, p := range ps {
		b = appendText(appendText(b, p.Key), p.Value)
		if p.Gone {
			b = append(b, 1)
		} else {
			b = append(b, 0)
		}
	}
	b = appendNum(b, len(xs))
	for _, x := range xs {
		b = appendNum(appendNum(appendNum(b, x.Client), x.Seq), int(x.Reply.Err))
		b = appendText(b, x.Reply.Value)
	}
	return b
}

func slowBytes(s api.State) []byte {
	return slowRows(appendNum(appendNum(nil, s.Index), s.Term), s.Pairs, s.Sessions)
}

// slowReader reads bytes by the library; bad is whether something was missing.
type slowReader struct {
	left []byte
	bad  bool
}

func (r *slowReader) take(n int) []byte {
	if r.bad || n < 0 || n > len(r.left) {
		r.bad = true
		return nil
	}
	b := r.left[:n]
	r.left = r.left[n:]
	return b
}

func (r *slowReader) num() int {
	if b := r.take(8); b != nil {
		return int(binary.BigEndian.Uint64(b))
	}
	return 0
}

func (r *slowReader) text() string {
	return string(r.take(r.num()))
}

func (r *slowReader) lists() ([]api.Pair, []api.Session) {
	var ps []api.Pair
	var xs []api.Session
	for n := r.num(); len(ps) < n && !r.bad; {
		p := api.Pair{Key: r.text(), Value: r.text()}
		if b := r.take(1); b != nil && b[0] == 1 {
			p.Gone = true
		} else if b != nil && b[0] != 0 {
			p.Key = ""
		}
		ps = append(ps, p)
	}
	for n := r.num(); len(xs) < n && !r.bad; {
		xs = append(xs, api.Session{Client: r.num(), Seq: r.num(), Reply: api.Reply{Err: api.Errno(r.num()), Value: r.text()}})
	}
	return ps, xs
}

// pairing is a state and the slow one to which it is held, and all entries that were applied.
type pairing struct {
	fast api.State
	slow *slowState
	all  []api.Entry
}

// step has both do the same, and fails if they answer otherwise.
func (p *pairing) step(t *testing.T, e api.Entry) {
	t.Helper()
	before := slowBytes(p.fast)
	u, got := Apply(p.fast, e)
	if string(slowBytes(p.fast)) != string(before) {
		t.Fatalf("%#v changed its argument", e)
	}
	if want := p.slow.apply(e); got != want {
		t.Fatalf("%#v: %#v, not %#v", e, got, want)
	}
	wantState(t, u, p.slow.told())
	if !Right(u) {
		t.Fatalf("%#v: %#v is not valid", e, u)
	}
	if got, want := Get(u, e.Cmd.Key), p.slow.get(e.Cmd.Key); got != want {
		t.Fatalf("Get %q: %#v, not %#v", e.Cmd.Key, got, want)
	}
	p.fast = u
	p.all = append(p.all, e)
}

// wantFold fails if all entries at once, or in two rows, give another state than one by one.
func (p *pairing) wantFold(t *testing.T) {
	t.Helper()
	wantState(t, Fold(api.State{}, p.all), p.fast)
	half := len(p.all) / 2
	wantState(t, Fold(Fold(api.State{}, p.all[:half]), p.all[half:]), p.fast)
	wantRead(t, Bytes(p.fast), p.fast)
}

// entryOf is an entry by four numbers, mostly the next one, and mostly one that has an effect.
func (p *pairing) entryOf(what, which, value, number byte) api.Entry {
	const letters = "\x00am\xff"
	e := api.Entry{Index: p.fast.Index + 1, Term: p.fast.Term}
	switch what >> 2 {
	case 0:
		e.Term += int(number % 4)
	case 1:
		e.Index += int(number%5) - 2
	case 2:
		e.Term--
	}
	if op := api.Op(what & 3); op != api.Nop {
		text := letters[value%4 : value%4+1]
		old := p.slow.values[keyOf(which)]
		if value > 200 {
			old = text
		}
		e.Cmd = api.Cmd{Op: op, Client: int(number % 5), Seq: p.fast.Index + 1 - int(number>>5), Key: keyOf(which), Value: text, Old: old}
	}
	return e
}

// keyOf is one of some seventy keys, a few more than a state may have; one is no key.
func keyOf(n byte) string {
	const digits = "\x00am\xff"
	k := ""
	for n %= 70; n > 0; n = (n - 1) / 4 {
		at := (n - 1) % 4
		k += digits[at : at+1]
	}
	return k
}

func TestAsTheSlowState(t *testing.T) {
	r := rand.New(rand.NewPCG(7, 1))
	replies := map[api.Errno]int{}
	for range 60 {
		p := pairing{slow: newSlow()}
		puts := r.IntN(5)
		for range 500 {
			bits := r.Uint64()
			what := byte(bits) & 31
			if r.IntN(4) < puts {
				what = 3<<2 | byte(api.Put)
			}
			e := p.entryOf(what, byte(bits>>8), byte(bits>>16), byte(bits>>24))
			_, out := Apply(p.fast, e)
			replies[out.Err]++
			p.step(t, e)
		}
		p.wantFold(t)
	}
	for _, e := range []api.Errno{0, api.ErrArgument, api.ErrOrder, api.ErrOld, api.ErrFull, api.ErrUnknown, api.ErrMatch} {
		if replies[e] < 10 {
			t.Errorf("only %d replies were %v", replies[e], e)
		}
	}
}

// FuzzApply holds a state against the slow one, for any row of entries.
func FuzzApply(f *testing.F) {
	f.Add([]byte{13, 1, 0, 0, 13, 1, 1, 0, 14, 1, 0, 0, 15, 1, 0, 0})
	f.Add([]byte{13, 1, 0, 0, 13, 1, 1, 32, 13, 1, 1, 64, 7, 1, 0, 2, 12, 0, 0, 0})
	f.Fuzz(func(t *testing.T, calls []byte) {
		p := pairing{slow: newSlow()}
		for n := 0; n+3 < len(calls); n += 4 {
			p.step(t, p.entryOf(calls[n], calls[n+1], calls[n+2], calls[n+3]))
		}
		p.wantFold(t)
	})
}

// wantRows fails if bytes are read as other lists than by the slow reader, or if another place is reached.
func wantRows(t *testing.T, b []byte) {
	t.Helper()
	slow := &slowReader{left: b}
	ps, xs := slow.lists()
	r := pack.Of(b)
	gotPairs, gotSessions := ReadRows(r)
	if !slices.Equal(gotPairs, ps) || !slices.Equal(gotSessions, xs) {
		t.Fatalf("%x: %#v, %#v, not %#v, %#v", b, gotPairs, gotSessions, ps, xs)
	}
	if r.Bad() != slow.bad || r.Done() != (!slow.bad && len(slow.left) == 0) {
		t.Fatalf("%x: Bad %v, Done %v, but %d bytes are left", b, r.Bad(), r.Done(), len(slow.left))
	}
}

// FuzzReadRows holds ReadRows against the slow reader, for any bytes.
func FuzzReadRows(f *testing.F) {
	for _, s := range some {
		f.Add(slowRows(nil, s.Pairs, s.Sessions))
	}
	f.Fuzz(func(t *testing.T, b []byte) {
		wantRows(t, b)
	})
}

// FuzzRead holds Read against P7.4: what it reads is valid and has these bytes, and what it refuses is no state's.
func FuzzRead(f *testing.F) {
	for _, s := range some {
		f.Add(slowBytes(s))
	}
	f.Add([]byte(nil))
	f.Fuzz(func(t *testing.T, b []byte) {
		slow := &slowReader{left: b}
		want := api.State{Index: slow.num(), Term: slow.num()}
		want.Pairs, want.Sessions = slow.lists()
		if Right(want) && string(slowBytes(want)) == string(b) {
			wantRead(t, b, want)
		} else {
			wantNone(t, "these", b)
		}
	})
}
