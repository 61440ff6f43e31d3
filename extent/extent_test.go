package extent

import (
	"math"
	"slices"
	"strings"
	"testing"

	"socage/api"
)

// at: an extent.
func at(off int, data string) api.Extent { return api.Extent{Off: off, Data: data} }

// lists: all lists of at most three short extents, right ones and wrong ones.
func lists() [][]api.Extent {
	var few []api.Extent
	for off := -1; off <= 4; off++ {
		for _, s := range []string{"", "b", "cd"} {
			few = append(few, at(off, s))
		}
	}
	all, last := [][]api.Extent{nil}, [][]api.Extent{nil}
	for range 3 {
		var next [][]api.Extent
		for _, l := range last {
			for _, x := range few {
				next = append(next, append(slices.Clone(l), x))
			}
		}
		all, last = append(all, next...), next
	}
	return all
}

// plainRight is P3.1, word by word.
func plainRight(size int, l []api.Extent) bool {
	right := size >= 0 && size <= 1048576
	for i, x := range l {
		right = right && len(x.Data) > 0 && x.Off >= 0 && x.Off+len(x.Data) <= size
		right = right && (i == 0 || x.Off >= l[i-1].Off+len(l[i-1].Data))
	}
	return right
}

// plainRead is P3.2, word by word: place by place.
func plainRead(size int, l []api.Extent, off, n int) string {
	if off < 0 || off >= size || n < 1 {
		return ""
	}
	s := ""
	for place := off; place < off+n && place < size; place++ {
		says := "\x00"
		for _, x := range l {
			if place >= x.Off && place < x.Off+len(x.Data) {
				says = x.Data[place-x.Off : place-x.Off+1]
			}
		}
		s += says
	}
	return s
}

// TestLimit: P3.1: the limit's number.
func TestLimit(t *testing.T) {
	if MaxSize != 1048576 {
		t.Error("MaxSize:", MaxSize)
	}
}

// TestRight: P3.1: ordinary extents, and the edges.
func TestRight(t *testing.T) {
	for i, x := range []struct {
		size int
		l    []api.Extent
		want bool
	}{
		{0, nil, true},
		{0, []api.Extent{}, true},
		{1, nil, true},
		{MaxSize, nil, true},
		{MaxSize + 1, nil, false},
		{-1, nil, false},
		{math.MinInt, nil, false},
		{math.MaxInt, nil, false},
		{1, []api.Extent{at(0, "b")}, true},
		{0, []api.Extent{at(0, "b")}, false},
		{-1, []api.Extent{at(-2, "b")}, false},
		{9, []api.Extent{at(0, "")}, false},
		{9, []api.Extent{at(0, "b"), at(1, "")}, false},
		{9, []api.Extent{at(-1, "b")}, false},
		{9, []api.Extent{at(-1, "bcd")}, false},
		{9, []api.Extent{at(0, "\x00")}, true},
		{9, []api.Extent{at(8, "b")}, true},
		{9, []api.Extent{at(9, "b")}, false},
		{9, []api.Extent{at(7, "bcd")}, false},
		{9, []api.Extent{at(0, "bc"), at(2, "d")}, true},
		{9, []api.Extent{at(0, "bc"), at(3, "d")}, true},
		{9, []api.Extent{at(0, "bc"), at(1, "d")}, false},
		{9, []api.Extent{at(2, "d"), at(0, "bc")}, false},
		{9, []api.Extent{at(0, "b"), at(0, "b")}, false},
		{9, []api.Extent{at(0, "b"), at(4, "c"), at(8, "d")}, true},
		{9, []api.Extent{at(0, "b"), at(4, "c"), at(9, "d")}, false},
		{9, []api.Extent{at(0, "b"), at(4, "c"), at(4, "d")}, false},
		{MaxSize, []api.Extent{at(MaxSize-1, "b")}, true},
		{MaxSize, []api.Extent{at(MaxSize, "b")}, false},
		{MaxSize + 1, []api.Extent{at(0, "b")}, false},
		{MaxSize, []api.Extent{at(0, strings.Repeat("b", MaxSize))}, true},
		{MaxSize, []api.Extent{at(0, strings.Repeat("b", MaxSize+1))}, false},
		{MaxSize, []api.Extent{at(1, strings.Repeat("b", MaxSize))}, false},
	} {
		if Right(x.size, x.l...) != x.want {
			t.Error("Right", i, !x.want)
		}
	}
	if !Right(0) || !Right(4, at(0, "b"), at(2, "cd")) {
		t.Error("Right of extents that are told one by one")
	}
}

// TestRightWrapped: P3.1: places and ends that would wrap round.
func TestRightWrapped(t *testing.T) {
	for _, off := range []int{math.MinInt, math.MinInt + 1, math.MaxInt - 1, math.MaxInt, 1 << 32, 1 << 62} {
		if Right(9, at(off, "bc")) || Right(9, at(0, "b"), at(off, "bc")) || Right(9, at(off, "b"), at(1, "c")) || Right(MaxSize, at(off, "b")) {
			t.Error("Right of an extent from", off, "on")
		}
	}
}

// TestRightAll: P3.1: all short lists of sizes at both ends.
func TestRightAll(t *testing.T) {
	rights := 0
	for _, l := range lists() {
		for _, size := range []int{-1, 0, 1, 2, 3, 4, 5, 6, MaxSize, MaxSize + 1} {
			want := plainRight(size, l)
			if Right(size, l...) != want {
				t.Fatal("Right", size, l, !want)
			}
			if want {
				rights++
			}
		}
	}
	if rights < 100 {
		t.Error("right ones:", rights)
	}
}

// TestRead: P3.2: ordinary reads, and the edges: places and amounts at 0, below, at the end and behind it.
func TestRead(t *testing.T) {
	l := []api.Extent{at(1, "b")}
	for _, x := range []struct {
		size   int
		l      []api.Extent
		off, n int
		want   string
	}{
		{6, l, 0, 9, "\x00b\x00\x00\x00\x00"},
		{6, l, 0, 6, "\x00b\x00\x00\x00\x00"},
		{6, l, 0, 2, "\x00b"},
		{6, l, 0, 1, "\x00"},
		{6, l, 1, 1, "b"},
		{6, l, 2, 1, "\x00"},
		{6, l, 5, 1, "\x00"},
		{6, l, 5, math.MaxInt, "\x00"},
		{6, l, 6, 1, ""},
		{6, l, 7, 1, ""},
		{6, l, math.MaxInt, math.MaxInt, ""},
		{6, l, 0, 0, ""},
		{6, l, 0, -1, ""},
		{6, l, 0, math.MinInt, ""},
		{6, l, -1, 3, ""},
		{6, l, -1, math.MaxInt, ""},
		{6, l, math.MinInt, math.MaxInt, ""},
		{0, nil, 0, 1, ""},
		{3, nil, 0, 9, "\x00\x00\x00"},
		{4, []api.Extent{at(0, "bc"), at(2, "de")}, 1, 2, "cd"},
		{4, []api.Extent{at(0, "b"), at(3, "\xff")}, 0, 4, "b\x00\x00\xff"},
		{MaxSize, []api.Extent{at(MaxSize-1, "b")}, MaxSize - 2, 9, "\x00b"},
		{MaxSize, []api.Extent{at(MaxSize-1, "b")}, MaxSize, 9, ""},
		{MaxSize, []api.Extent{at(0, "b"), at(MaxSize-1, "c")}, 0, MaxSize, "b" + strings.Repeat("\x00", MaxSize-2) + "c"},
		{MaxSize, []api.Extent{at(0, strings.Repeat("b", MaxSize))}, 0, math.MaxInt, strings.Repeat("b", MaxSize)},
	} {
		if got := Read(x.size, x.l, x.off, x.n); got != x.want {
			t.Errorf("Read %d %.40v from %d on, of %d: %d bytes: %.40q", x.size, x.l, x.off, x.n, len(got), got)
		}
	}
}

// TestReadAll: P3.2: of all short lists that are right, from all places on, all amounts.
func TestReadAll(t *testing.T) {
	for _, l := range lists() {
		for size := range 8 {
			if !plainRight(size, l) {
				continue
			}
			for off := -2; off <= size+2; off++ {
				for n := -2; n <= size+2; n++ {
					if got, want := Read(size, l, off, n), plainRead(size, l, off, n); got != want {
						t.Fatalf("Read %d %v from %d on, of %d: %q, not %q", size, l, off, n, got, want)
					}
				}
			}
		}
	}
}

// TestReadMany: P3.2: a file of very many extents, read piece by piece.
func TestReadMany(t *testing.T) {
	all := strings.Repeat("b\x00\x00cd\x00", MaxSize/6)
	l := Of(all)
	for off := 0; off < len(all); off += 7 {
		if got := Read(len(all), l, off, 7); got != all[off:min(off+7, len(all))] {
			t.Fatalf("Read from %d on: %q", off, got)
		}
	}
}

// TestOf: P3.2: the longest rows without a nought.
func TestOf(t *testing.T) {
	for _, x := range []struct {
		s    string
		want []api.Extent
	}{
		{"", nil},
		{"\x00", nil},
		{"\x00\x00\x00", nil},
		{"b", []api.Extent{at(0, "b")}},
		{"bcd", []api.Extent{at(0, "bcd")}},
		{"\x00b", []api.Extent{at(1, "b")}},
		{"b\x00", []api.Extent{at(0, "b")}},
		{"\x00bc\x00\x00d", []api.Extent{at(1, "bc"), at(5, "d")}},
		{"b\x00b", []api.Extent{at(0, "b"), at(2, "b")}},
		{"0\x000", []api.Extent{at(0, "0"), at(2, "0")}},
		{"\xff\x00\u00e9", []api.Extent{at(0, "\xff"), at(2, "\u00e9")}},
		{strings.Repeat("\x00", MaxSize) + "b", []api.Extent{at(MaxSize, "b")}},
		{strings.Repeat("b", MaxSize+1), []api.Extent{at(0, strings.Repeat("b", MaxSize+1))}},
	} {
		if got := Of(x.s); !slices.Equal(got, x.want) {
			t.Errorf("Of(%.40q): %.80v", x.s, got)
		}
	}
}

// TestOfAll: P3.2: of all short texts the extents are right, read as the text, and are rows that are as long as can be.
func TestOfAll(t *testing.T) {
	last := []string{""}
	for range 8 {
		var next []string
		for _, s := range last {
			l := Of(s)
			if !Right(len(s), l...) || Read(len(s), l, 0, len(s)) != s {
				t.Errorf("Of(%q): %v", s, l)
			}
			for _, x := range l {
				end := x.Off + len(x.Data)
				if strings.Contains(x.Data, "\x00") || x.Off > 0 && s[x.Off-1] != 0 || end < len(s) && s[end] != 0 {
					t.Errorf("Of(%q): %v", s, l)
				}
			}
			next = append(next, s+"\x00", s+"b", s+"c")
		}
		last = next
	}
}

// TestAllArguments: P1: all calls end, and none panics, whatever the numbers and extents.
func TestAllArguments(t *testing.T) {
	numbers := []int{math.MinInt, math.MinInt + 1, -MaxSize, -2, -1, 0, 1, 2, 9, MaxSize, MaxSize + 1, 1 << 40, math.MaxInt - 1, math.MaxInt}
	var few []api.Extent
	for _, off := range numbers {
		few = append(few, at(off, ""), at(off, "bcd"))
	}
	wrong := [][]api.Extent{nil, few, {at(5, "b"), at(0, "cdefghijk")}}
	for _, x := range few {
		for _, y := range few {
			wrong = append(wrong, []api.Extent{x, y})
		}
	}
	for _, size := range numbers {
		for _, l := range wrong {
			Right(size, l...)
		}
		for _, off := range numbers {
			Read(size, few, off, 3)
			Read(size, nil, off, math.MaxInt)
		}
	}
	for _, off := range []int{math.MinInt, -1, 0, 1, 4, 8, math.MaxInt} {
		for _, n := range []int{math.MinInt, -1, 0, 1, 4, math.MaxInt} {
			for _, l := range wrong {
				Read(9, l, off, n)
			}
		}
	}
}

// TestHandedIn: P2: extents that are handed in are not changed, their spare room neither.
func TestHandedIn(t *testing.T) {
	room := []api.Extent{at(1, "b"), at(3, "cd"), at(5, "e")}
	want := slices.Clone(room)
	for off := -1; off < 7; off++ {
		Right(6, room[:2]...)
		Read(6, room[:2], off, 3)
	}
	if !slices.Equal(room, want) {
		t.Error("changed:", room)
	}
	got := Read(6, room, 0, 6)
	room[0] = at(0, "x")
	if got != "\x00b\x00cde" || Read(6, want, 0, 6) != got {
		t.Errorf("kept: %q", got)
	}
}

// TestAnswered: P2: what Of answers is new memory: a change of it changes no other one.
func TestAnswered(t *testing.T) {
	a := Of("\x00bc\x00d")
	b := Of("\x00bc\x00d")
	a[0] = at(0, "x")
	_ = append(a[:1], at(7, "y"))
	want := []api.Extent{at(1, "bc"), at(4, "d")}
	if !slices.Equal(b, want) || !slices.Equal(Of("\x00bc\x00d"), want) {
		t.Error("Of:", b)
	}
}
