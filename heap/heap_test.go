package heap

import (
	"math"
	"slices"
	"strconv"
	"strings"
	"testing"
)

// plainMerge is what the chapter says of Merge: each Item comes in ahead of all that are to be behind it.
func plainMerge(rows [][]string) []Item {
	var l []Item
	for i, row := range rows {
		for _, text := range row {
			at := 0
			for at < len(l) && (l[at].Name < text || l[at].Name == text && l[at].Row < i) {
				at++
			}
			l = slices.Insert(l, at, Item{text, i})
		}
	}
	return l
}

// plainFirst is what the chapter says of First.
func plainFirst(l []Item) []Item {
	var first []Item
	for i := range l {
		if i > 0 && l[i].Name == l[i-1].Name {
			continue
		}
		first = append(first, l[i])
	}
	return first
}

// holds: Merge of these rows, and First of that, is what the chapter says.
func holds(t *testing.T, rows [][]string) {
	t.Helper()
	l, want := Merge(rows...), plainMerge(rows)
	if !slices.Equal(l, want) {
		t.Fatalf("Merge of %q: %v, not %v", rows, l, want)
	}
	if f := First(l); !slices.Equal(f, plainFirst(want)) {
		t.Fatalf("First of %v: %v, not %v", l, f, plainFirst(want))
	}
}

// choices: all rows that have some of these texts, which rise.
func choices(texts ...string) [][]string {
	var l [][]string
	for mask := range 1 << len(texts) {
		var row []string
		for i, x := range texts {
			if mask>>i&1 == 1 {
				row = append(row, x)
			}
		}
		l = append(l, row)
	}
	return l
}

// numbered: a row of so many texts, from a number on, each a step behind the other.
func numbered(first, many, step int) []string {
	var row []string
	for i := range many {
		row = append(row, strconv.Itoa(1_000_000+first+i*step))
	}
	return row
}

// TestAllOf: P9.1: all that up to four rows may have of a few texts, the empty one and a piece of another one too.
func TestAllOf(t *testing.T) {
	holds(t, nil)
	l := choices("", "a", "ab", "b")
	for _, a := range l {
		holds(t, [][]string{a})
		for _, b := range l {
			holds(t, [][]string{a, b})
			for _, c := range l {
				holds(t, [][]string{a, b, c})
			}
		}
	}
	l = choices("", "\x00", "\xff")
	for _, a := range l {
		for _, b := range l {
			for _, c := range l {
				for _, d := range l {
					holds(t, [][]string{a, b, c, d})
				}
			}
		}
	}
}

// TestExamples: P9.1: the chapter's example, and others, written out.
func TestExamples(t *testing.T) {
	for i, x := range []struct {
		rows  [][]string
		all   []Item
		first []Item
	}{
		{nil, nil, nil},
		{[][]string{nil}, nil, nil},
		{[][]string{{}, nil, {}}, nil, nil},
		{[][]string{{""}}, []Item{{"", 0}}, []Item{{"", 0}}},
		{[][]string{nil, {""}, {""}}, []Item{{"", 1}, {"", 2}}, []Item{{"", 1}}},
		{[][]string{{"a", "c"}, {"b", "c"}}, []Item{{"a", 0}, {"b", 1}, {"c", 0}, {"c", 1}}, []Item{{"a", 0}, {"b", 1}, {"c", 0}}},
		{[][]string{{"b", "c"}, {"a", "c"}}, []Item{{"a", 1}, {"b", 0}, {"c", 0}, {"c", 1}}, []Item{{"a", 1}, {"b", 0}, {"c", 0}}},
		{[][]string{{"c", "d"}, nil, {"a", "b"}}, []Item{{"a", 2}, {"b", 2}, {"c", 0}, {"d", 0}}, []Item{{"a", 2}, {"b", 2}, {"c", 0}, {"d", 0}}},
		{[][]string{{"x"}, {"x"}, {"x"}}, []Item{{"x", 0}, {"x", 1}, {"x", 2}}, []Item{{"x", 0}}},
		{[][]string{{"", "x"}, {"x"}, {"", "y"}}, []Item{{"", 0}, {"", 2}, {"x", 0}, {"x", 1}, {"y", 2}}, []Item{{"", 0}, {"x", 0}, {"y", 2}}},
	} {
		if l := Merge(x.rows...); !slices.Equal(l, x.all) {
			t.Error(i, "Merge:", l, "not", x.all)
		}
		if f := First(x.all); !slices.Equal(f, x.first) {
			t.Error(i, "First:", f, "not", x.first)
		}
	}
}

// TestBytes: P9.1: texts are held against each other byte by byte, whatever they say to people.
func TestBytes(t *testing.T) {
	texts := []string{"", "\x00", "\x00\x00", "\n", "10", "9", "A", "B", "Z", "a", "a\x00", "aa", "ab", "a\xff", "b", "z", "\x7f", "\x80", "\xc3", "\xc3\xa9", "\xe2\x82\xac", "\xf0\x9f\x98\x80", "\xff", "\xff\xff"}
	if !slices.IsSorted(texts) {
		t.Fatal("the texts don't rise")
	}
	var even, odd []string
	for i, x := range texts {
		if i%2 == 0 {
			even = append(even, x)
		} else {
			odd = append(odd, x)
		}
	}
	for _, rows := range [][][]string{{even, odd}, {odd, even}, {texts, even, odd, texts}} {
		holds(t, rows)
		for i, x := range First(Merge(rows...)) {
			if x.Name != texts[i] {
				t.Fatalf("Merge: %q, not %q", x.Name, texts[i])
			}
		}
	}
}

// TestMany: P9.1: many rows, and long ones.
func TestMany(t *testing.T) {
	for many := range 70 {
		var rows [][]string
		for i := range many {
			rows = append(rows, numbered(i*7%5, i*37%11, 1+i%3))
		}
		holds(t, rows)
		holds(t, slices.Repeat([][]string{{"b", "c"}}, many))
		holds(t, append(slices.Repeat([][]string{{"b"}}, many), []string{"a"}))
	}
	var single [][]string
	for i := range 100_000 {
		single = append(single, []string{strconv.Itoa(1_000_000 + i*7919%100_000/2)})
	}
	l := Merge(single...)
	if len(l) != 100_000 || len(First(l)) != 50_000 {
		t.Error("of many rows:", len(l), len(First(l)))
	}
	for i, x := range l {
		if x.Name != strconv.Itoa(1_000_000+i/2) || single[x.Row][0] != x.Name || i%2 == 1 && x.Row <= l[i-1].Row {
			t.Fatal("of many rows:", i, x)
		}
	}
	l = Merge(numbered(0, 100_000, 2), numbered(1, 100_000, 2), numbered(0, 200_000, 1))
	if len(l) != 400_000 || len(First(l)) != 200_000 {
		t.Error("of long rows:", len(l), len(First(l)))
	}
	for i, x := range l {
		if want := [2]int{i / 2 % 2, 2}[i%2]; x.Name != strconv.Itoa(1_000_000+i/2) || x.Row != want {
			t.Fatal("of long rows:", i, x)
		}
	}
}

// TestFirst: P9.1: First of Items that no Merge answered: what counts is the one right ahead, and its Name alone.
func TestFirst(t *testing.T) {
	for i, x := range []struct{ l, first []Item }{
		{nil, nil},
		{[]Item{}, nil},
		{[]Item{{"", 0}}, []Item{{"", 0}}},
		{[]Item{{"", -1}, {"", 0}}, []Item{{"", -1}}},
		{[]Item{{"a", 3}, {"a", 2}, {"a", 1}}, []Item{{"a", 3}}},
		{[]Item{{"a", 1}, {"a", 1}}, []Item{{"a", 1}}},
		{[]Item{{"b", 1}, {"a", 1}, {"b", 1}}, []Item{{"b", 1}, {"a", 1}, {"b", 1}}},
		{[]Item{{"a", 0}, {"b", 0}, {"b", 1}, {"a", 2}, {"a", 3}, {"", 4}}, []Item{{"a", 0}, {"b", 0}, {"a", 2}, {"", 4}}},
		{[]Item{{"a", math.MinInt}, {"a\x00", math.MaxInt}}, []Item{{"a", math.MinInt}, {"a\x00", math.MaxInt}}},
	} {
		if f := First(x.l); !slices.Equal(f, x.first) {
			t.Error(i, "First:", f, "not", x.first)
		}
	}
	texts := []string{"", "a", "b"}
	for code := range 729 {
		var l []Item
		for i, c := 0, code; i < 6; i, c = i+1, c/3 {
			l = append(l, Item{texts[c%3], c})
		}
		for n := range 7 {
			if f := First(l[:n]); !slices.Equal(f, plainFirst(l[:n])) {
				t.Fatalf("First of %v: %v", l[:n], f)
			}
		}
	}
}

// TestHandedIn: P2: neither rows nor Items are changed or kept, nor the room behind them.
func TestHandedIn(t *testing.T) {
	room := []string{"a", "c", "zz", "zz", "b", "c", "zz"}
	rows := make([][]string, 3, 5)
	rows[0], rows[1], rows[2] = room[0:2:4], room[4:6], nil
	rows[:5][3] = []string{"a"}
	want := []Item{{"a", 0}, {"b", 1}, {"c", 0}, {"c", 1}}
	l := Merge(rows...)
	if !slices.Equal(l, want) {
		t.Fatal("Merge:", l)
	}
	if !slices.Equal(room, []string{"a", "c", "zz", "zz", "b", "c", "zz"}) || len(rows[0]) != 2 || len(rows[1]) != 2 || rows[2] != nil || len(rows[:5][3]) != 1 || rows[:5][4] != nil {
		t.Error("Merge changed what was handed in:", room, rows[:5])
	}
	clear(room)
	clear(rows[:5])
	if !slices.Equal(l, want) {
		t.Error("Merge's answer shares what was handed in:", l)
	}
	items := append(make([]Item, 0, 6), want...)
	items[:5][4] = Item{"c", 9}
	first := []Item{{"a", 0}, {"b", 1}, {"c", 0}}
	f := First(items)
	if !slices.Equal(f, first) || !slices.Equal(items[:6], append(slices.Clone(want), Item{"c", 9}, Item{})) {
		t.Error("First changed what was handed in:", f, items[:6])
	}
	clear(items)
	if !slices.Equal(f, first) {
		t.Error("First's answer shares what was handed in:", f)
	}
	_ = First(want[:1])
	_ = append(First(want[:2]), Item{"zz", 9})
	if want[2] != (Item{"c", 0}) {
		t.Error("First's answer has room that was handed in:", want)
	}
}

// TestAnswered: P2: what is answered is new each time, and hangs on what is handed in alone.
func TestAnswered(t *testing.T) {
	rows := [][]string{{"a", "c"}, {"b", "c"}}
	want := []Item{{"a", 0}, {"b", 1}, {"c", 0}, {"c", 1}}
	l, m := Merge(rows...), Merge(rows...)
	f, g := First(m), First(m)
	for i := range l {
		l[i] = Item{"zz", 9}
	}
	for i := range f {
		f[i] = Item{"zz", 9}
	}
	_, _ = append(l, Item{"zz", 9}), append(f, Item{"zz", 9})
	if !slices.Equal(m, want) || !slices.Equal(g, want[:3]) || !slices.Equal(Merge(rows...), want) || !slices.Equal(First(m), want[:3]) {
		t.Error("answers share memory:", m, g)
	}
}

// TestTypes: rule 6: two Items are compared by ==.
func TestTypes(t *testing.T) {
	if (Item{"a", 1}) != (Item{Name: "a", Row: 1}) || (Item{"a", 1}) == (Item{"a", 2}) || (Item{"a", 1}) == (Item{"b", 1}) {
		t.Error("Item")
	}
}

// TestAllArguments: P1: rows that don't rise, or have a text twice, and any bytes: all calls end, and none panics.
func TestAllArguments(t *testing.T) {
	long := strings.Repeat("n", 1<<20)
	for _, rows := range [][][]string{
		{{"b", "a"}},
		{{"c", "b", "a"}, {"a", "b", "c"}, {"b", "a", "c"}},
		{{"a", "a", "a"}, {"a", "a"}},
		{{"", ""}, {"", ""}, {}},
		{{long, long[1:], long}, {long + "\xff", "\x00"}, nil},
		slices.Repeat([][]string{slices.Repeat([]string{"b", "a"}, 500)}, 100),
		make([][]string, 1<<20),
	} {
		l := Merge(rows...)
		First(l)
		First(slices.Repeat(l, 3))
	}
	choice := []string{"a", "b", "", "a", "c", "b"}
	for i := range choice {
		for j := range choice {
			for k := range choice {
				Merge(choice[i:], choice[j:], choice[:k])
			}
		}
	}
}
