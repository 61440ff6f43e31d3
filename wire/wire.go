// Package wire writes and reads numbers and texts as bytes.
package wire

// maxSize is how many bytes a number has at most.
const maxSize = 4

// Writer is bytes to which more are written; the zero one has none.
type Writer struct {
	b []byte
}

// Reader is bytes that are read from the front on.
type Reader struct {
	left string
}

// sized: may a number have so many bytes?
func sized(size int) bool { return size >= 1 && size <= maxSize }

// Put: a number of so many bytes, one to four, the highest first; false: it doesn't fit.
func (w *Writer) Put(n, size int) bool {
	if !sized(size) || n < 0 || n>>(8*size) != 0 {
		return false
	}
	for i := range size {
		w.b = append(w.b, byte(n>>(8*(size-1-i))))
	}
	return true
}

// Text: a text, behind its length, a number of so many bytes; false: that doesn't fit.
func (w *Writer) Text(s string, size int) bool {
	if !w.Put(len(s), size) {
		return false
	}
	w.b = append(w.b, s...)
	return true
}

// Bytes: all that was written.
func (w *Writer) Bytes() string { return string(w.b) }

// Read: of some bytes.
func Read(s string) *Reader { return &Reader{left: s} }

// Take: a number of so many bytes; false: there aren't as many.
func (r *Reader) Take(size int) (int, bool) {
	if !sized(size) || len(r.left) < size {
		return 0, false
	}
	n := 0
	for i := range size {
		n = n<<8 | int(r.left[i])
	}
	r.left = r.left[size:]
	return n, true
}

// Text: a text behind its length; false: there aren't as many bytes, and nothing is read.
func (r *Reader) Text(size int) (string, bool) {
	before := r.left
	n, ok := r.Take(size)
	if !ok {
		return "", false
	}
	if len(r.left) < n {
		// The length was read already: it has to be there again for who asks next.
		r.left = before
		return "", false
	}
	s := r.left[:n]
	r.left = r.left[n:]
	return s, true
}

// Left: how many bytes weren't read.
func (r *Reader) Left() int { return len(r.left) }
