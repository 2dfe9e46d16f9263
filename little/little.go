// Package little: whole numbers written as bytes, the lowest byte first.
package little

// Writer makes a text of numbers. The zero Writer has none.
type Writer struct{ bytes []byte }

// Put writes a number in so many bytes; what is above them is left out.
func (w *Writer) Put(n uint64, size int) {
	for range size {
		w.bytes = append(w.bytes, byte(n))
		n >>= 8
	}
}

// Text tells all that has been written.
func (w *Writer) Text() string { return string(w.bytes) }

// Reader takes numbers from the front of a text.
type Reader struct{ rest string }

// NewReader begins at the front of the text.
func NewReader(text string) Reader { return Reader{text} }

// Take tells the number of the next bytes, so many of them (at most 8), which must be there.
func (r *Reader) Take(size int) uint64 {
	n := uint64(0)
	for i := size - 1; i >= 0; i-- {
		n = n<<8 | uint64(r.rest[i])
	}
	r.rest = r.rest[size:]
	return n
}
