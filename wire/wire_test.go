package wire

import (
	"math"
	"strings"
	"testing"
)

// wrongSizes: sizes that no number has.
var wrongSizes = []int{math.MinInt, -64, -4, -1, 0, 5, 8, 32, 64, math.MaxInt}

// greatest: the greatest number of so many bytes.
func greatest(size int) int { return []int{0, 255, 65535, 16777215, 4294967295}[size] }

// wrote: a Writer that has some bytes already, by which it shows that nothing was written.
func wrote(t *testing.T) *Writer {
	t.Helper()
	w := &Writer{}
	if !w.Put(7, 1) {
		t.Fatal("Put(7, 1)")
	}
	return w
}

// TestZeroWriter: P2.1: the zero one has no bytes.
func TestZeroWriter(t *testing.T) {
	var w Writer
	if w.Bytes() != "" {
		t.Errorf("%x", w.Bytes())
	}
}

// TestPut: P2.1: numbers at both ends of what a size holds, and between.
func TestPut(t *testing.T) {
	for _, x := range []struct {
		n, size int
		want    string
	}{
		{0, 1, "\x00"},
		{1, 1, "\x01"},
		{128, 1, "\x80"},
		{255, 1, "\xff"},
		{0, 2, "\x00\x00"},
		{255, 2, "\x00\xff"},
		{256, 2, "\x01\x00"},
		{258, 2, "\x01\x02"},
		{65535, 2, "\xff\xff"},
		{0, 3, "\x00\x00\x00"},
		{65536, 3, "\x01\x00\x00"},
		{0x010203, 3, "\x01\x02\x03"},
		{16777215, 3, "\xff\xff\xff"},
		{0, 4, "\x00\x00\x00\x00"},
		{16777216, 4, "\x01\x00\x00\x00"},
		{0x01020304, 4, "\x01\x02\x03\x04"},
		{1 << 31, 4, "\x80\x00\x00\x00"},
		{4294967295, 4, "\xff\xff\xff\xff"},
	} {
		w := wrote(t)
		if !w.Put(x.n, x.size) || w.Bytes() != "\x07"+x.want {
			t.Errorf("Put(%d, %d): %x", x.n, x.size, w.Bytes())
		}
	}
}

// TestPutRefused: P2.1: what doesn't fit, and sizes that there aren't; nothing is written.
func TestPutRefused(t *testing.T) {
	refused := func(n, size int) {
		t.Helper()
		w := wrote(t)
		if w.Put(n, size) || w.Bytes() != "\x07" {
			t.Errorf("Put(%d, %d): %x", n, size, w.Bytes())
		}
		if !w.Put(8, 1) || w.Bytes() != "\x07\x08" {
			t.Errorf("Put behind Put(%d, %d): %x", n, size, w.Bytes())
		}
	}
	for size := 1; size <= 4; size++ {
		for _, n := range []int{greatest(size) + 1, greatest(size) * 2, 1 << 40, math.MaxInt, -1, -255, -greatest(size), -greatest(size) - 1, math.MinInt} {
			refused(n, size)
		}
	}
	for _, size := range wrongSizes {
		for _, n := range []int{0, 1, 255, -1, math.MaxInt, math.MinInt} {
			refused(n, size)
		}
	}
}

// TestWriteText: P2.1: how many bytes a text has, and then it.
func TestWriteText(t *testing.T) {
	for _, x := range []struct {
		s    string
		size int
		want string
	}{
		{"ab", 2, "\x00\x02ab"},
		{"ab", 1, "\x02ab"},
		{"ab", 3, "\x00\x00\x02ab"},
		{"ab", 4, "\x00\x00\x00\x02ab"},
		{"", 1, "\x00"},
		{"", 4, "\x00\x00\x00\x00"},
		{"\x00", 1, "\x01\x00"},
		{"\u00e9", 1, "\x02\xc3\xa9"},
		{"\xff\x00\xfe", 1, "\x03\xff\x00\xfe"},
		{strings.Repeat("x", 255), 1, "\xff" + strings.Repeat("x", 255)},
		{strings.Repeat("x", 256), 2, "\x01\x00" + strings.Repeat("x", 256)},
		{strings.Repeat("x", 65535), 2, "\xff\xff" + strings.Repeat("x", 65535)},
		{strings.Repeat("x", 65536), 3, "\x01\x00\x00" + strings.Repeat("x", 65536)},
		{strings.Repeat("x", 1<<24-1), 3, "\xff\xff\xff" + strings.Repeat("x", 1<<24-1)},
		{strings.Repeat("x", 1<<24), 4, "\x01\x00\x00\x00" + strings.Repeat("x", 1<<24)},
	} {
		w := wrote(t)
		if !w.Text(x.s, x.size) || w.Bytes() != "\x07"+x.want {
			t.Errorf("Text of %d bytes in %d: %.20x", len(x.s), x.size, w.Bytes())
		}
	}
}

// TestWriteTextRefused: P2.1: a text whose length doesn't fit; nothing is written.
func TestWriteTextRefused(t *testing.T) {
	refused := func(s string, size int) {
		t.Helper()
		w := wrote(t)
		if w.Text(s, size) || w.Bytes() != "\x07" {
			t.Errorf("Text of %d bytes in %d: %.20x", len(s), size, w.Bytes())
		}
		if !w.Text("c", 1) || w.Bytes() != "\x07\x01c" {
			t.Errorf("Text behind Text of %d bytes in %d: %.20x", len(s), size, w.Bytes())
		}
	}
	for size := 1; size <= 3; size++ {
		refused(strings.Repeat("x", greatest(size)+1), size)
	}
	refused(strings.Repeat("x", 1<<17), 1)
	for _, size := range wrongSizes {
		refused("", size)
		refused("ab", size)
	}
}

// TestWriteMany: P2.1: what is written stands behind what was, whatever was asked for between.
func TestWriteMany(t *testing.T) {
	var w Writer
	want := ""
	for i := range 5000 {
		if !w.Put(i, 2) || w.Put(i, 5) || !w.Text("t", 1) || w.Put(i+256, 1) {
			t.Fatal("written:", i)
		}
		want += string([]byte{byte(i / 256), byte(i % 256), 1, 't'})
	}
	if w.Bytes() != want || w.Bytes() != want {
		t.Error("Bytes of many")
	}
}

// TestBytesAgain: P2.1, P2: what Bytes answered stays when more is written.
func TestBytesAgain(t *testing.T) {
	var w Writer
	w.Text("abc", 1)
	first := w.Bytes()
	w.Text("xyz", 1)
	if first != "\x03abc" || w.Bytes() != "\x03abc\x03xyz" {
		t.Errorf("%x, then %x", first, w.Bytes())
	}
}

// TestTake: P2.2: numbers of each size, the highest byte first, out of more bytes.
func TestTake(t *testing.T) {
	for _, x := range []struct {
		s       string
		size, n int
	}{
		{"\x00", 1, 0},
		{"\xff", 1, 255},
		{"\x01\x02", 2, 258},
		{"\x00\x00", 2, 0},
		{"\xff\xff", 2, 65535},
		{"\x01\x02\x03", 3, 0x010203},
		{"\xff\xff\xff", 3, 16777215},
		{"\x01\x02\x03\x04", 4, 0x01020304},
		{"\x80\x00\x00\x00", 4, 1 << 31},
		{"\xff\xff\xff\xff", 4, 4294967295},
	} {
		for _, behind := range []string{"", "\x05", "more"} {
			r := Read(x.s + behind)
			if n, ok := r.Take(x.size); n != x.n || !ok || r.Left() != len(behind) {
				t.Errorf("Take(%d) of %x: %d, %v, left %d", x.size, x.s+behind, n, ok, r.Left())
			}
		}
	}
}

// TestTakeRefused: P2.2: too few bytes, and sizes that there aren't; nothing is read.
func TestTakeRefused(t *testing.T) {
	refused := func(s string, size int) {
		t.Helper()
		r := Read(s)
		if n, ok := r.Take(size); n != 0 || ok || r.Left() != len(s) {
			t.Errorf("Take(%d) of %d bytes: %d, %v, left %d", size, len(s), n, ok, r.Left())
		}
		if n, ok := r.Take(1); len(s) > 0 && (n != int(s[0]) || !ok) {
			t.Errorf("Take(1) behind Take(%d) of %d bytes: %d, %v", size, len(s), n, ok)
		}
	}
	for size := 1; size <= 4; size++ {
		for n := range size {
			refused("\x09\x08\x07"[:n], size)
		}
	}
	for _, size := range wrongSizes {
		refused("", size)
		refused("\x09", size)
		refused("\x09\x08\x07\x06\x05\x04\x03\x02\x01", size)
	}
}

// TestReadText: P2.2: as many bytes as the number says.
func TestReadText(t *testing.T) {
	for _, x := range []struct {
		s    string
		size int
		want string
		left int
	}{
		{"\x00\x02ab", 2, "ab", 0},
		{"\x02abc", 1, "ab", 1},
		{"\x00\x00\x02ab", 3, "ab", 0},
		{"\x00\x00\x00\x02ab!", 4, "ab", 1},
		{"\x00", 1, "", 0},
		{"\x00ab", 1, "", 2},
		{"\x00\x00\x00\x00", 4, "", 0},
		{"\x03\xff\x00\xfe", 1, "\xff\x00\xfe", 0},
		{"\xff" + strings.Repeat("x", 256), 1, strings.Repeat("x", 255), 1},
		{"\x01\x00" + strings.Repeat("x", 256), 2, strings.Repeat("x", 256), 0},
	} {
		r := Read(x.s)
		if s, ok := r.Text(x.size); s != x.want || !ok || r.Left() != x.left {
			t.Errorf("Text(%d) of %.20x: %.20x, %v, left %d", x.size, x.s, s, ok, r.Left())
		}
	}
}

// TestReadTextRefused: P2.2: too few bytes, of the number or of the text, and sizes that there aren't; nothing is read.
func TestReadTextRefused(t *testing.T) {
	refused := func(s string, size int) {
		t.Helper()
		r := Read(s)
		if got, ok := r.Text(size); got != "" || ok || r.Left() != len(s) {
			t.Errorf("Text(%d) of %.20x: %.20x, %v, left %d", size, s, got, ok, r.Left())
		}
		if n, ok := r.Take(1); len(s) > 0 && (n != int(s[0]) || !ok) {
			t.Errorf("Take(1) behind Text(%d) of %.20x: %d, %v", size, s, n, ok)
		}
	}
	refused("", 1)
	refused("\x03ab", 1)
	refused("\x01", 1)
	refused("\x00", 2)
	refused("\x00\x03ab", 2)
	refused("\x00\x00\x03ab", 3)
	refused("\x00\x00\x00\x03ab", 4)
	refused("\xff\xff\xff\xffab", 4)
	refused("\x80\x00\x00\x00ab", 4)
	refused("\xff"+strings.Repeat("x", 254), 1)
	refused("\x00\x00\x00", 4)
	for _, size := range wrongSizes {
		refused("", size)
		refused("\x00\x00\x00\x00\x00\x00\x00\x00\x00", size)
		refused("\x02ab", size)
	}
}

// TestLeft: P2.2: how many bytes weren't read, step by step.
func TestLeft(t *testing.T) {
	r := Read("\x01\x02\x03\x01a\x09")
	left := func(want int) {
		t.Helper()
		if r.Left() != want || r.Left() != want {
			t.Errorf("Left: %d, not %d", r.Left(), want)
		}
	}
	left(6)
	r.Take(3)
	left(3)
	r.Text(4)
	left(3)
	r.Text(1)
	left(1)
	r.Take(2)
	left(1)
	r.Text(1)
	left(1)
	r.Take(1)
	left(0)
	r.Take(1)
	left(0)
	if Read("").Left() != 0 {
		t.Error("Left of nothing")
	}
}

// TestReadWritten: P2.1, P2.2: what is written is read again.
func TestReadWritten(t *testing.T) {
	var w Writer
	for size := 1; size <= 4; size++ {
		for i := range 8*size + 1 {
			if n := 1<<i - 1; !w.Put(n, size) || !w.Text(strings.Repeat("y", i), size) {
				t.Fatal("written:", n, size)
			}
		}
	}
	r := Read(w.Bytes())
	for size := 1; size <= 4; size++ {
		for i := range 8*size + 1 {
			if n, ok := r.Take(size); n != 1<<i-1 || !ok {
				t.Errorf("Take(%d): %d, %v, not %d", size, n, ok, 1<<i-1)
			}
			if s, ok := r.Text(size); s != strings.Repeat("y", i) || !ok {
				t.Errorf("Text(%d): %q, %v", size, s, ok)
			}
		}
	}
	if r.Left() != 0 {
		t.Error("Left:", r.Left())
	}
}

// TestApart: P2: no Writer or Reader tells of what was asked of another one.
func TestApart(t *testing.T) {
	var v, w Writer
	v.Put(1, 1)
	if w.Bytes() != "" || v.Bytes() != "\x01" {
		t.Errorf("Writers: %x, %x", v.Bytes(), w.Bytes())
	}
	q, r := Read("ab"), Read("ab")
	q.Take(1)
	if q.Left() != 1 || r.Left() != 2 {
		t.Error("Readers:", q.Left(), r.Left())
	}
}

// TestAllArguments: P1: all calls end, and none panics, whatever the numbers and bytes.
func TestAllArguments(t *testing.T) {
	numbers := append([]int{1, 2, 3, 4, 255, 256, 1 << 16, 1 << 24, 1 << 32, -256}, wrongSizes...)
	texts := []string{"", "\x00", "\xff", "\x80\x00\x00\x00\x00", "\xff\xff\xff\xff\xff", strings.Repeat("\x00", 300)}
	for _, size := range numbers {
		var w Writer
		for _, n := range numbers {
			w.Put(n, size)
		}
		for _, s := range texts {
			w.Text(s, size)
			w.Bytes()
			r := Read(s)
			r.Take(size)
			r.Text(size)
			r.Left()
		}
	}
}
