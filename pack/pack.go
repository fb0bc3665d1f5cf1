// Package pack has numbers and texts as bytes: layer 1.
package pack

import "slices"

// numLen is how many bytes a number takes.
const numLen = 8

// Writer lays parts behind one another.
type Writer struct {
	data []byte
}

// Num lays a number of eight bytes; Byte one of one; Text a text, and how long it is.
func (w *Writer) Num(n int) *Writer {
	for shift := 8 * (numLen - 1); shift >= 0; shift -= 8 {
		w.data = append(w.data, byte(uint64(n)>>shift))
	}
	return w
}

func (w *Writer) Byte(c byte) *Writer {
	w.data = append(w.data, c)
	return w
}

func (w *Writer) Text(s string) *Writer {
	w.Num(len(s))
	w.data = append(w.data, s...)
	return w
}

// Bytes are all that was laid. They are a copy, so that neither the caller nor a later call changes what the other one has.
func (w *Writer) Bytes() []byte {
	return slices.Clone(w.data)
}

// Reader reads parts, as long as there are some.
type Reader struct {
	left []byte
	bad  bool
}

// Of reads bytes. They are copied, because a Reader outlives the call and the caller may change them.
func Of(b []byte) *Reader {
	return &Reader{left: slices.Clone(b)}
}

// take is the next n bytes; none, if they are not there. It is the one place where a Reader becomes bad, so that it stays so.
func (r *Reader) take(n int) []byte {
	if r.bad || n < 0 || n > len(r.left) {
		r.bad = true
		return nil
	}
	b := r.left[:n]
	r.left = r.left[n:]
	return b
}

// Num, Byte and Text read what was laid; 0, or "", if that is not there.
func (r *Reader) Num() int {
	n := uint64(0)
	for _, c := range r.take(numLen) {
		n = n<<8 | uint64(c)
	}
	return int(n)
}

func (r *Reader) Byte() byte {
	b := r.take(1)
	if r.bad {
		return 0
	}
	return b[0]
}

func (r *Reader) Text() string {
	n := r.Num()
	return string(r.take(n))
}

// Bad tells whether something was not there; Done whether all was, and nothing is left.
func (r *Reader) Bad() bool {
	return r.bad
}

func (r *Reader) Done() bool {
	return !r.bad && len(r.left) == 0
}
