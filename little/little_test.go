package little

import (
	"encoding/binary"
	"math"
	"testing"
)

func TestNumbersOfAllSizes(t *testing.T) {
	for _, n := range []uint64{0, 1, 255, 256, 65535, 65536, 1<<32 - 1, 1 << 32, math.MaxInt64, 1 << 63, math.MaxUint64, 0x0102030405060708} {
		whole := string(binary.LittleEndian.AppendUint64(nil, n))
		for size := range 9 {
			var w Writer
			w.Put(n, size)
			if w.Text() != whole[:size] {
				t.Errorf("%d in %d bytes is %q, want %q", n, size, w.Text(), whole[:size])
			}
			r := NewReader(w.Text() + "\xff")
			want := n
			if size < 8 {
				want %= 1 << (8 * size)
			}
			if got := r.Take(size); got != want {
				t.Errorf("%q is %d, want %d", w.Text(), got, want)
			}
		}
	}
}

func TestNumbersBehindEachOther(t *testing.T) {
	var w Writer
	w.Put(7, 1)
	w.Put(math.MaxUint64, 8)
	w.Put(258, 4)
	w.Put(0, 1)
	if want := "\x07\xff\xff\xff\xff\xff\xff\xff\xff\x02\x01\x00\x00\x00"; w.Text() != want {
		t.Errorf("the text is %q, want %q", w.Text(), want)
	}
	r := NewReader(w.Text())
	if a, b, c, d := r.Take(1), r.Take(8), r.Take(4), r.Take(1); a != 7 || b != math.MaxUint64 || c != 258 || d != 0 {
		t.Errorf("the numbers are %d, %d, %d, %d", a, b, c, d)
	}
}
